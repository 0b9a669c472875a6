import random
import unittest

from samples import SAMPLES
from swornrun.decide import decide
from swornrun.errors import BadPaper
from swornrun.papers import Paper, read_paper, write_paper
from swornrun.reader import read_program

TOKENS = (
    ("on",), ("over",), ("dead", (3,)), ("dead", (3, 0, 7, 999999999999)), ("pair", 0, 2), ("write", 4), ("either", 0), ("all", 1, 12),
    ("match", 10, 0), ("sorted", 1, 0, 3), ("below", 999999999999, 5, 6),
)
TEXT = """text 2
proc f()
end
proc f
on
over
dead 3
dead 3 0 7 999999999999
pair 0 2
write 4
either 0
all 1 12
match 10 0
sorted 1 0 3
below 999999999999 5 6"""


class PaperTest(unittest.TestCase):
    def wrong(self, text, row):
        with self.assertRaises(BadPaper) as caught:
            read_paper(text)
        self.assertEqual(caught.exception.row, row, text)

    def assert_read_again(self, paper):
        text = write_paper(paper)
        again = read_paper(text)
        self.assertEqual((again.text, again.name, again.tokens), (paper.text, paper.name, paper.tokens))
        self.assertIs(again.same(paper), True)
        self.assertEqual(write_paper(again), text)

    def test_told(self):
        paper = Paper("proc f()\nend", "f", TOKENS)
        self.assertEqual((paper.text, paper.name, paper.tokens), ("proc f()\nend", "f", TOKENS))
        self.assertEqual(write_paper(paper), TEXT)
        self.assert_read_again(paper)
        self.assertEqual(read_paper(TEXT).tokens, TOKENS)

    def test_same(self):
        paper = Paper("a", "f", (("on",), ("over",)))
        self.assertIs(paper.same(Paper("a", "f", (("on",), ("over",)))), True)
        for other in (Paper("b", "f", paper.tokens), Paper("a", "g", paper.tokens), Paper("a", "f", (("on",),)), Paper("a", "f", ()), None, "a"):
            self.assertIs(paper.same(other), False)

    def test_any_texts_and_names(self):
        texts = ("", "\n", "\n\n", "a\n", "\na", "text 3", "proc f\non\nover", "on", "\t", "a\rb", "a\x0bb\x0cc\u2028d\u0085e", " x ", "\u00e4 \u20ac", "text 1\n\nproc f\non")
        for text in texts:
            for name in ("f", "", " ", " f ", "proc f", "on\tover", "\r", "a b  c", "\u2028", "text 2"):
                self.assert_read_again(Paper(text, name, (("over",),)))
        self.assertEqual(write_paper(Paper("", "", (("on",),))), "text 1\n\nproc \non")

    def test_samples(self):
        for text in SAMPLES.values():
            program = read_program(text)
            for procedure in program.procedures:
                self.assert_read_again(decide(program, procedure.name).paper)

    def test_first_row(self):
        rest = "\nproc f()\nend\nproc f\non"
        for head in (
            "", "text", "text ", "text  2", "text 2 ", " text 2", "text 02", "text -2", "text 2.", "text x", "Text 2", "text 0", "text 2 2", "texts 2",
            "text +2", "text 1000000000000", "text \u0662", "text\t2", "text 00", "proc f", "on",
        ):
            self.wrong(head + rest, 1)
        self.wrong("", 1)

    def test_rows_missing(self):
        rows = TEXT.split("\n")
        for many in range(1, 5):
            self.wrong("\n".join(rows[:many]), many + 1)
        for many in range(5, len(rows) + 1):
            self.assertEqual(read_paper("\n".join(rows[:many])).tokens, TOKENS[:many - 4])
        self.wrong("text 999999999999", 2)
        self.wrong("text 999999999999\na\nproc f\non", 5)

    def test_number_of_rows_is_another(self):
        rows = TEXT.split("\n")
        self.wrong("\n".join(["text 1"] + rows[1:]), 3)
        self.wrong("\n".join(["text 4"] + rows[1:]), 6)
        self.wrong("\n".join(["text 3"] + rows[1:]), 5)

    def test_name_row(self):
        for row in ("", "proc", "proc\tf", "Proc f", " proc f", "pro f", "on", "name f"):
            self.wrong(f"text 1\na\n{row}\non", 3)

    def test_token_rows(self):
        wrong = (
            "", " ", "on ", " on", "on 1", "over 0", "On", "off", "dead", "dead ", "dead 1 ", "dead  1", "dead 01", "dead -1", "dead +1", "dead x", "dead 1 x", "dead 1.0",
            "dead 1000000000000", "dead 00", "dead 1\t2", "dead 1,2", "dead \u0661", "dead \u00b2", "pair", "pair 1", "pair 1 2 3", "pair 1  2", "pair 1 -2", "write",
            "write 1 2", "write 01", "either", "either 1 1", "all 1", "all 1 2 3", "match 1", "match 1 2 3", "sorted 1 2", "sorted 1 2 3 4", "below 1 2", "below 1 2 3 4",
            "pairs 1 2", "1 2", "on over", "ring 1", "dead 1_0",
        )
        for row in wrong:
            self.wrong(f"text 1\na\nproc f\n{row}", 4)
            self.wrong(f"text 1\na\nproc f\non\n{row}\nover", 5)
            self.wrong(f"text 1\na\nproc f\n{row}\n{row}", 4)
        self.wrong(TEXT + "\n", 16)

    def test_spoilt_at_random(self):
        """A text that is read is what write_paper writes; otherwise the rows ahead of the told one lack no more than rows."""
        chance = random.Random(5)
        for _ in range(1500):
            text = TEXT
            for _ in range(chance.choice((1, 1, 2))):
                at = chance.randrange(len(text))
                text = text[:at] + chance.choice(("", "", "0", " ", "\n", "1", "x", "-")) + text[at + chance.choice((0, 1)):]
            try:
                self.assertEqual(write_paper(read_paper(text)), text)
            except BadPaper as error:
                rows = text.split("\n")
                self.assertTrue(1 <= error.row <= len(rows) + 1)
                if error.row > 1:
                    try:
                        read_paper("\n".join(rows[:error.row - 1]))
                    except BadPaper as missing:
                        self.assertEqual(missing.row, error.row)


if __name__ == "__main__":
    unittest.main()
