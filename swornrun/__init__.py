"""Swornrun: programs that keep their promises."""
