import itertools
import re
import unittest

from swornrun.words import is_name, is_number, split_row

RESERVED = (
    "proc list needs gives keeps falls from to let while if else end choose check call swap return skip "
    "and or not all sorted below either len old moves result"
).split()
SIGNS = ["<=", ">=", "==", "!=", "<", ">", "=", "+", "-", "(", ")", "[", "]", ",", ":"]


def expected_words(text):
    if re.fullmatch(r"(?:[a-z]+|[0-9]+|[<>=!]=|[<>=+\-()\[\],:]| )*", text) is None:
        return None
    return re.findall(r"[a-z]+|[0-9]+|[<>=!]=|[<>=+\-()\[\],:]", text)


class SplitRowTest(unittest.TestCase):
    def test_ordinary_rows(self):
        self.assertEqual(
            split_row("gives all i from 0 to result: a[i] < x"),
            ["gives", "all", "i", "from", "0", "to", "result", ":", "a", "[", "i", "]", "<", "x"])
        self.assertEqual(
            split_row("proc find(list a, x)"), ["proc", "find", "(", "list", "a", ",", "x", ")"])

    def test_no_words(self):
        self.assertEqual(split_row(""), [])
        self.assertEqual(split_row("     "), [])

    def test_spaces_at_the_ends_and_between(self):
        self.assertEqual(split_row("   let   x  =   1 "), ["let", "x", "=", "1"])
        self.assertEqual(split_row("let x=1"), ["let", "x", "=", "1"])

    def test_longest_runs(self):
        self.assertEqual(split_row("lenabc007x"), ["lenabc", "007", "x"])
        self.assertEqual(split_row("len a"), ["len", "a"])
        self.assertEqual(split_row("1 2"), ["1", "2"])
        self.assertEqual(split_row("a" * 50 + "1" * 50), ["a" * 50, "1" * 50])

    def test_signs(self):
        for sign in SIGNS:
            self.assertEqual(split_row(sign), [sign])
            self.assertEqual(split_row(f"a{sign}1"), ["a", sign, "1"])

    def test_two_characters_ahead_of_one(self):
        self.assertEqual(split_row("<=="), ["<=", "="])
        self.assertEqual(split_row("==="), ["==", "="])
        self.assertEqual(split_row("===="), ["==", "=="])
        self.assertEqual(split_row("=<="), ["=", "<="])
        self.assertEqual(split_row("=!="), ["=", "!="])
        self.assertEqual(split_row("<>"), ["<", ">"])
        self.assertEqual(split_row("< ="), ["<", "="])
        self.assertEqual(split_row("!=="), ["!=", "="])

    def test_characters_of_no_word(self):
        for wrong in (
            "\t", "\n", "\r", "\x0b", "\x0c", "\0", "\xa0", "A", "Z", "!", ".", ";", "_", "*", "/", "%",
            "{", "}", "'", '"', "#", "\\", "&", "|", "~", "@", "`", "\xe9", "\u0661", "\xb2", "\uff41", "\ud800",
        ):
            for text in (wrong, f"a{wrong}b", f"let x = 1{wrong}", f"{wrong}x", f"a {wrong} b"):
                self.assertIsNone(split_row(text), text)
        self.assertIsNone(split_row("! ="))
        self.assertIsNone(split_row("!!="))

    def test_all_short_texts(self):
        for many in range(5):
            for letters in itertools.product("a0<=! -A", repeat=many):
                text = "".join(letters)
                self.assertEqual(split_row(text), expected_words(text), text)

    def test_changed_answer_changes_no_later_one(self):
        for text in ("", "let x = 1"):
            first = split_row(text)
            wanted = list(first)
            first.append("more")
            first[0] = "other"
            self.assertEqual(split_row(text), wanted)


class NameTest(unittest.TestCase):
    def test_names(self):
        for word in ("a", "z", "abcdefghijkl", "lo", "lena", "oldest", "results", "true", "i", "procs"):
            self.assertIs(is_name(word), True, word)

    def test_reserved_words(self):
        self.assertEqual(len(RESERVED), 30)
        for word in RESERVED:
            self.assertIs(is_name(word), False, word)

    def test_lengths(self):
        for many in range(1, 13):
            self.assertIs(is_name("q" * many), True)
        for many in (0, 13, 14, 1000):
            self.assertIs(is_name("q" * many), False)

    def test_other_texts(self):
        for word in ("", " ", "a ", " a", "a b", "A", "aB", "a1", "1", "a_", "_", "a\n", "\xe9", "\uff41", "<=", "a\0"):
            self.assertIs(is_name(word), False, word)


class NumberTest(unittest.TestCase):
    def test_numbers(self):
        for word in ("0", "1", "9", "10", "42", "100", "9999999999", "1000000000"):
            self.assertIs(is_number(word), True, word)

    def test_lengths(self):
        for many in range(1, 11):
            self.assertIs(is_number("7" * many), True)
        for many in (0, 11, 12, 1000):
            self.assertIs(is_number("7" * many), False)

    def test_needless_zeros(self):
        for word in ("00", "01", "007", "0000000000", "0123456789"):
            self.assertIs(is_number(word), False, word)

    def test_other_texts(self):
        for word in ("", " ", "1 ", " 1", "1 2", "-1", "+1", "-", "a", "1a", "1_0", "1.0", "1\n", "\u0661", "\xb2", "\uff11"):
            self.assertIs(is_number(word), False, word)


if __name__ == "__main__":
    unittest.main()
