import itertools
import random
import re
import unittest

import grammar
from swornrun.terms import read_condition, read_promise, read_term

X = ("var", "x", 0)
ZERO = ("num", 0)
A = ("a", False)
B = ("b", False)
OLD_A = ("a", True)
OLD_B = ("b", True)

PLAIN = {
    "0": ZERO,
    "7": ("num", 7),
    "- 7": ("num", -7),
    "- 0": ZERO,
    "9999999999": ("num", 9999999999),
    "- 9999999999": ("num", -9999999999),
    "x": X,
    "x + 3": ("var", "x", 3),
    "x - 3": ("var", "x", -3),
    "x + 0": X,
    "x - 0": X,
    "abcdefghijkl": ("var", "abcdefghijkl", 0),
    "len a": ("len", "a", 0),
    "len a + 99": ("len", "a", 99),
    "len a - 1": ("len", "a", -1),
    "result": ("var", "result", 0),
    "result + 2": ("var", "result", 2),
    "result - 2": ("var", "result", -2),
}
CELLS = {
    "a [ 0 ]": ("cell", A, ZERO, 0),
    "a [ - 1 ]": ("cell", A, ("num", -1), 0),
    "a [ x ]": ("cell", A, X, 0),
    "a [ x + 1 ]": ("cell", A, ("var", "x", 1), 0),
    "a [ len b - 1 ]": ("cell", A, ("len", "b", -1), 0),
    "a [ result ]": ("cell", A, ("var", "result", 0), 0),
    "a [ a ]": ("cell", A, ("var", "a", 0), 0),
    "a [ x ] + 4": ("cell", A, X, 4),
    "a [ x - 2 ] - 4": ("cell", A, ("var", "x", -2), -4),
    "a [ x ] + 0": ("cell", A, X, 0),
    "old a [ x ]": ("cell", OLD_A, X, 0),
    "old a [ len a - 1 ] - 5": ("cell", OLD_A, ("len", "a", -1), -5),
    "old a [ result + 1 ] + 5": ("cell", OLD_A, ("var", "result", 1), 5),
}
TERMS = {**PLAIN, **CELLS}

NO_TERMS = (
    "", " ", "+", "-", "+ 1", "- x", "- - 1", "- + 1", "-", "00", "01", "12345678901", "abcdefghijklm", "let", "len", "old",
    "x x", "1 1", "x 1", "1 x", "1 + 1", "1 + x", "- 1 + 1", "x + y", "x + - 1", "x - - 1", "x + 01", "x + 12345678901",
    "x + 1 + 1", "x +", "+ x", "x - len a", "x * 2", "len", "len 1", "len len a", "len result", "len old a", "old len a",
    "len a [ 0 ]", "old a", "old x", "old a + 1", "old old a [ 0 ]", "old result", "result result", "result [ 0 ]",
    "a [ ]", "a [ 0", "a 0 ]", "[ 0 ]", "a [ [ 0 ] ]", "a [ 0 ] ]", "a [ b [ 0 ] ]", "a [ 0 ] [ 0 ]", "a [ 0 + 1 ]", "a ] 0 [",
    "a [ x y ]", "a [ 0 , 1 ]", "a ( 0 )", "( x )", "( 1 )", "a [ ( x ) ]", "a [ x ] + x", "a [ x ] + - 1", "a [ x ] + 1 - 1",
    "a + 1 [ x ]", "1 [ x ]", "len [ x ]", "all [ x ]", "a [ old b ]", "a [ old b [ 0 ] ]", "x < y", "not x", "x , y", "x :",
    "A", "a\t[ 0 ]", "x\n", "\nx", "x.", "x!", "a [ X ]",
)

SPACINGS = ("-7", "- 7", "-  7", "  x", "x  ", "x+3", "x +3", " x+ 3 ", "len  a", "len a+99", "a[0]", " a  [0  ]", "a[-1]")


def closely(words):
    """Write words with no needless space."""
    text = ""
    for word in words:
        run = text[-1:].isalnum() and word.isalnum() and text[-1:].isalpha() == word.isalpha()
        text += " " + word if run or (text[-1:] in "<>=!" and word == "=") else word
    return text


def widely(words):
    return "   " + "  ".join(words) + "    "


def changed_words(words, chance, vocabulary):
    """Leave out, double, put in or exchange one word."""
    at = chance.randrange(len(words))
    other = chance.choice(vocabulary)
    return chance.choice((
        words[:at] + words[at + 1:],
        words[:at] + [words[at]] + words[at:],
        words[:at] + [other] + words[at:],
        words[:at] + [other] + words[at + 1:],
    ))


class ReadTermTest(unittest.TestCase):
    def test_each_form(self):
        for text, term in TERMS.items():
            self.assertEqual(read_term(text), term, text)

    def test_any_spacing(self):
        for text, term in TERMS.items():
            self.assertEqual(read_term(closely(text.split())), term, text)
            self.assertEqual(read_term(widely(text.split())), term, text)
        for text in SPACINGS:
            self.assertEqual(read_term(text), TERMS[" ".join(grammar.words_of(text))], text)

    def test_minus_zero_is_the_integer_zero(self):
        self.assertEqual(repr(read_term("-0")), "('num', 0)")
        self.assertEqual(repr(read_term("x - 0")), "('var', 'x', 0)")

    def test_no_terms(self):
        for text in NO_TERMS:
            self.assertIsNone(read_term(text), text)

    def test_all_short_rows(self):
        for many in range(6):
            for words in itertools.product(("a", "len", "old", "result", "[", "]", "+", "-", "5"), repeat=many):
                self.assertEqual(read_term(" ".join(words)) is not None, grammar.is_term(words), words)


SIGNS = ("<", "<=", ">", ">=", "==", "!=")
P = ("cmp", "<", ("var", "p", 0), ("num", 1))
Q = ("cmp", ">=", ("var", "q", 0), ("num", 2))
R = ("cmp", "!=", ("var", "r", 0), ("num", 3))
S = ("cmp", "==", ("var", "s", 0), ("num", 4))
COMPARISONS = {"P": "p < 1", "Q": "q >= 2", "R": "r != 3", "S": "s == 4"}

CONDITIONS = {
    "P": P,
    "not P": ("not", P),
    "not not P": ("not", ("not", P)),
    "P and Q": ("and", (P, Q)),
    "P or Q": ("or", (P, Q)),
    "P and Q and R and S": ("and", (P, Q, R, S)),
    "P or Q or R or S": ("or", (P, Q, R, S)),
    "P and Q or R": ("or", (("and", (P, Q)), R)),
    "P or Q and R": ("or", (P, ("and", (Q, R)))),
    "P and Q or R and S": ("or", (("and", (P, Q)), ("and", (R, S)))),
    "P or Q and R or S": ("or", (P, ("and", (Q, R)), S)),
    "not P and Q": ("and", (("not", P), Q)),
    "not P or Q": ("or", (("not", P), Q)),
    "P and not Q": ("and", (P, ("not", Q))),
    "not ( P and Q )": ("not", ("and", (P, Q))),
    "not ( P or Q )": ("not", ("or", (P, Q))),
    "not ( P )": ("not", P),
    "( P )": P,
    "( ( P ) )": P,
    "( P ) and ( Q )": ("and", (P, Q)),
    "( P and Q )": ("and", (P, Q)),
    "( P and Q ) and R": ("and", (("and", (P, Q)), R)),
    "P and ( Q and R )": ("and", (P, ("and", (Q, R)))),
    "( P or Q ) or R": ("or", (("or", (P, Q)), R)),
    "P or ( Q or R )": ("or", (P, ("or", (Q, R)))),
    "( P or Q ) and R": ("and", (("or", (P, Q)), R)),
    "P and ( Q or R )": ("and", (P, ("or", (Q, R)))),
    "( P and Q ) or R": ("or", (("and", (P, Q)), R)),
    "( P and Q ) and ( R and S )": ("and", (("and", (P, Q)), ("and", (R, S)))),
    "( ( P and Q ) )": ("and", (P, Q)),
    "( ( P and Q ) ) and R": ("and", (("and", (P, Q)), R)),
    "( not P ) and Q": ("and", (("not", P), Q)),
    "not ( not ( P ) or not Q )": ("not", ("or", (("not", P), ("not", Q)))),
}
NO_CONDITIONS = (
    "", " ", "P P", "P and", "and P", "P or", "or P", "P and and Q", "P or or Q", "P and or Q", "P or and Q", "not",
    "P not", "P not Q", "P not and Q", "not and P", "and", "or", "( )", "(", ")", "( P", "P )", ") P (", "( P ) )",
    "( ( P )", "( P ) ( Q )", "P ( Q )", "( P ) Q", "( P and ) Q", "( P and Q", "P and ( Q", "P ) and ( Q", "( P ) and ) Q (",
    "( P and Q ) ) or ( ( R )", "not ( )", "( not ) P", "( not P ) Q", "P , Q", "P : Q", "[ P ]", "P and Q ,", "x", "1", "p and q",
    "not p", "( p ) < 1", "p < ( 1 )", "( p < ) 1", "p ( < 1 )", "p < 1 < 2", "p < < 1", "p <", "< 1", "<", "p < q >= 2", "p = 1",
    "p < = 1", "p ! = 1", "p < 1 and 2", "p < not q", "p < and q", "either P or Q", "all i from 0 to n : a [ i ] < 1",
    "sorted a from 0 to 1", "P AND Q", "P & Q", "P\nand Q", "not\tP", "P and Q.", "P == Q", "( P ) == ( Q )", "notP",
)


def spell(text):
    return re.sub(r"\b[PQRS]\b", lambda found: COMPARISONS[found[0]], text)


def texts_in(tree):
    """Put comparisons in the place of their texts in a tree."""
    if isinstance(tree, str):
        left, sign, right = tree.partition(next(word for word in tree.split() if word in SIGNS))
        return ("cmp", sign, read_term(left), read_term(right))
    if tree[0] == "not":
        return ("not", texts_in(tree[1]))
    return (tree[0], tuple(texts_in(part) for part in tree[1]))


def random_words(chance, size):
    kind = chance.choice(("cmp", "not", "and", "or", "()")) if size > 0 else "cmp"
    if kind == "cmp":
        return spell(chance.choice("PQRS")).split()
    if kind == "not":
        return ["not"] + random_words(chance, size - 1)
    if kind == "()":
        return ["("] + random_words(chance, size - 1) + [")"]
    return random_words(chance, size - 1) + [kind] + random_words(chance, size - 1)


class ReadConditionTest(unittest.TestCase):
    def test_comparisons(self):
        for sign in SIGNS:
            for left, right in (("x", "0"), ("old a [ x ] - 1", "len a"), ("- 3", "a [ - 3 ]"), ("result", "a [ 0 ]")):
                words = left.split() + [sign] + right.split()
                value = ("cmp", sign, TERMS[left] if left in TERMS else read_term(left), read_term(right))
                for text in (" ".join(words), closely(words), widely(words)):
                    self.assertEqual(read_condition(text), value, text)

    def test_all_pairs_of_terms(self):
        for left, one in TERMS.items():
            for right, other in TERMS.items():
                self.assertEqual(read_condition(f"{left} <= {right}"), ("cmp", "<=", one, other))

    def test_each_form(self):
        for text, value in CONDITIONS.items():
            words = spell(text).split()
            for written in (" ".join(words), closely(words), widely(words)):
                self.assertEqual(read_condition(written), value, written)

    def test_no_conditions(self):
        for text in NO_CONDITIONS:
            self.assertIsNone(read_condition(spell(text)), text)

    def test_no_terms_make_no_comparison(self):
        for text in NO_TERMS:
            self.assertIsNone(read_condition(f"1 < {text}"), text)
            if text != "not x":
                self.assertIsNone(read_condition(f"{text} < 1"), text)

    def test_eight_parentheses_and_nots(self):
        for opens in itertools.product(("(", "not"), repeat=8):
            closing = " )" * opens.count("(")
            text = " ".join(opens) + " p < 1" + closing
            value = P
            for _ in range(opens.count("not")):
                value = ("not", value)
            self.assertEqual(read_condition(text), value, text)
            self.assertEqual(read_condition(f"{text} and {text}"), ("and", (value, value)), text)
            for nine in (f"( {text} )", f"not {text}", f"q >= 2 or ( {text} )", f"not {text} and q >= 2"):
                self.assertIsNone(read_condition(nine), nine)

    def test_closed_ones_are_not_counted(self):
        text = " and ".join(["( p < 1 )"] * 12)
        self.assertEqual(read_condition(text), ("and", (P,) * 12))
        text = " or ".join(["not p < 1"] * 12)
        self.assertEqual(read_condition(text), ("or", (("not", P),) * 12))
        seven = "( " * 7 + "not p < 1 and not ( q >= 2 )" + " )" * 7
        self.assertIsNone(read_condition(seven))
        seven = "( " * 7 + "not p < 1 and ( q >= 2 )" + " )" * 7
        self.assertEqual(read_condition(seven), ("and", (("not", P), Q)))

    def test_very_many(self):
        self.assertIsNone(read_condition("(" * 20000))
        self.assertIsNone(read_condition("(" * 20000 + "p < 1" + ")" * 20000))
        self.assertIsNone(read_condition("not " * 20000 + "p < 1"))
        self.assertEqual(read_condition(" and ".join(["p < 1"] * 2000)), ("and", (P,) * 2000))

    def test_joined_as_the_reference_does(self):
        chance = random.Random(5)
        kept = 0
        for _ in range(4000):
            words = random_words(chance, 4)
            if chance.random() < 0.5:
                words = changed_words(words, chance, ("(", ")", "not", "and", "or", "<", "p", "1"))
            tree = grammar.tree_of(words)
            kept += tree is not None
            self.assertEqual(read_condition(" ".join(words)), None if tree is None else texts_in(tree), words)
        self.assertGreater(kept, 1500)

    def test_all_short_rows(self):
        pieces = ("p < 1", "(", ")", "not", "and", "or")
        for many in range(7):
            for chosen in itertools.product(pieces, repeat=many):
                words = " ".join(chosen).split()
                tree = grammar.tree_of(words)
                self.assertEqual(read_condition(" ".join(words)), None if tree is None else texts_in(tree), words)


PROMISES = {
    "p < 1": P,
    "old a [ x ] >= len a": ("cmp", ">=", ("cell", OLD_A, X, 0), ("len", "a", 0)),
    "result == 0": ("cmp", "==", ("var", "result", 0), ZERO),
    "either p < 1 or q >= 2": ("either", P, Q),
    "either old a [ 0 ] < a [ 0 ] or result != x": (
        "either", ("cmp", "<", ("cell", OLD_A, ZERO, 0), ("cell", A, ZERO, 0)), ("cmp", "!=", ("var", "result", 0), X)),
    "all i from 0 to len a : a [ i ] < x": ("all", A, ZERO, ("len", "a", 0), "<", X),
    "all i from x - 1 to result : old a [ i ] != - 3": ("all", OLD_A, ("var", "x", -1), ("var", "result", 0), "!=", ("num", -3)),
    "all i from 0 to 9 : a [ i ] >= len b + 2": ("all", A, ZERO, ("num", 9), ">=", ("len", "b", 2)),
    "all i from 0 to 9 : a [ i ] == result - 2": ("all", A, ZERO, ("num", 9), "==", ("var", "result", -2)),
    "all x from 0 to 9 : a [ x ] < b": ("all", A, ZERO, ("num", 9), "<", ("var", "b", 0)),
    "all abcdefghijkl from 0 to i : a [ abcdefghijkl ] < i": ("all", A, ZERO, ("var", "i", 0), "<", ("var", "i", 0)),
    "all j from 0 to 9 : i [ j ] <= len i": ("all", ("i", False), ZERO, ("num", 9), "<=", ("len", "i", 0)),
    "all i from 0 to 9 : a [ i ] < b [ i ]": ("match", A, ZERO, ("num", 9), "<", B, 0),
    "all i from 0 to 9 : a [ i ] == old a [ i ]": ("match", A, ZERO, ("num", 9), "==", OLD_A, 0),
    "all i from 0 to 9 : old a [ i ] > b [ i ] + 7": ("match", OLD_A, ZERO, ("num", 9), ">", B, 7),
    "all i from 0 to 9 : old a [ i ] > old b [ i ] - 7": ("match", OLD_A, ZERO, ("num", 9), ">", OLD_B, -7),
    "all i from 0 to 9 : a [ i ] < a [ i ] - 0": ("match", A, ZERO, ("num", 9), "<", A, 0),
    "all q from len b to x : a [ q ] < b [ q ]": ("match", A, ("len", "b", 0), X, "<", B, 0),
    "sorted a from 0 to len a": ("sorted", A, ZERO, ("len", "a", 0)),
    "sorted old a from x + 1 to result - 1": ("sorted", OLD_A, ("var", "x", 1), ("var", "result", -1)),
    "below a from 0 to x , b from x to len b": ("below", A, ZERO, X, B, X, ("len", "b", 0)),
    "below old a from - 1 to 2 , a from 3 to 4": ("below", OLD_A, ("num", -1), ("num", 2), A, ("num", 3), ("num", 4)),
    "below a from 0 to 1 , old b from 0 to 1": ("below", A, ZERO, ("num", 1), OLD_B, ZERO, ("num", 1)),
}
NO_PROMISES = (
    "", " ", "not p < 1", "p < 1 and q >= 2", "p < 1 or q >= 2", "( p < 1 )", "x", "p < 1 < 2",
    "either", "either p < 1", "either p < 1 or", "either or q >= 2", "either p < 1 and q >= 2", "either p < 1 or q >= 2 or r != 3",
    "either either p < 1 or q >= 2 or r != 3", "either ( p < 1 ) or q >= 2", "either not p < 1 or q >= 2",
    "either p < 1 or sorted a from 0 to 1", "either p < 1 or q >= 2 ,", "or p < 1", "either p < 1 , q >= 2",
    "all", "all i", "all i from 0 to 9", "all i from 0 to 9 :", "all from 0 to 9 : a [ i ] < x", "all i 0 to 9 : a [ i ] < x",
    "all i from 0 9 : a [ i ] < x", "all i from 0 to 9 a [ i ] < x", "all i from 0 to 9 : a [ j ] < x", "all i from 0 to 9 : a [ i + 1 ] < x",
    "all i from 0 to 9 : a [ i ] + 1 < x", "all i from 0 to 9 : x < a [ i ]", "all i from 0 to 9 : a [ i ] < b [ j ]",
    "all i from 0 to 9 : a [ i ] < b [ 0 ]", "all i from 0 to 9 : a [ i ] < b [ i + 1 ]", "all i from 0 to 9 : a [ i ] < 3 + b [ i ]",
    "all i from 0 to 9 : a < x", "all i from 0 to 9 : a [ i ] x", "all i from 0 to 9 : a [ i ] < x < y", "all i from 0 to 9 : a [ i ]",
    "all i from 0 to 9 : len a < x", "all i from 0 to 9 : a [ i ] < x , x", "all i from 0 to 9 : : a [ i ] < x",
    "all i from 0 to 9 : not a [ i ] < x", "all i from 0 to 9 : ( a [ i ] < x )", "all i from 0 to 9 : a [ i ] < x and a [ i ] < y",
    "all i from a [ 0 ] to 9 : a [ i ] < x", "all i from 0 to a [ 0 ] : a [ i ] < x", "all i , from 0 to 9 : a [ i ] < x",
    "all result from 0 to 9 : a [ result ] < x", "all old from 0 to 9 : a [ old ] < x", "all 1 from 0 to 9 : a [ 1 ] < x",
    "all abcdefghijklm from 0 to 9 : a [ abcdefghijklm ] < x", "all i j from 0 to 9 : a [ i ] < x", "all i from 0 to 9 : old [ i ] < x",
    "all i from 0 to 9 : result [ i ] < x", "all i from 0 to 9 : a [ i ] < old b", "all i from 0 to 9 : old old a [ i ] < x",
    "sorted", "sorted a", "sorted a from 0", "sorted a from 0 to", "sorted a 0 to 1", "sorted from 0 to 1", "sorted a from to 1",
    "sorted a from 0 to 1 to 2", "sorted a from 0 to 1 , b from 0 to 1", "sorted a [ 0 ] from 0 to 1", "sorted old from 0 to 1",
    "sorted result from 0 to 1", "sorted len a from 0 to 1", "sorted a from a [ 0 ] to 1", "sorted a from 0 to 1 :", "sorted 1 from 0 to 1",
    "sorted sorted a from 0 to 1", "sorted a from 0 to ( 1 )", "sorted a to 0 from 1", "sorted a , b from 0 to 1",
    "below", "below a from 0 to 1", "below a from 0 to 1 ,", "below , b from 0 to 1", "below a from 0 to 1 b from 0 to 1",
    "below a from 0 to 1 , b", "below a from 0 to 1 , b from 0 to 1 , c from 0 to 1", "below a from 0 to 1 : b from 0 to 1",
    "below a from 0 to 1 , below b from 0 to 1", "below a from 0 to 1 , b from b [ 0 ] to 1", "below a , b from 0 to 1",
    "below a from 0 to 1 and b from 0 to 1", "below old from 0 to 1 , b from 0 to 1",
    "skip", "needs p < 1", "A < 1", "sorted a\tfrom 0 to 1", "all i from 0 to 9 : a [ i ] < x\n", "sorted a from 0 to 1.",
)
NAME_ELSEWHERE = (
    "all i from i to 9 : a [ i ] < x", "all i from 0 to i : a [ i ] < x", "all i from i + 1 to 9 : a [ i ] < x",
    "all i from 0 to i - 1 : a [ i ] < x", "all i from len i to 9 : a [ i ] < x", "all i from 0 to len i + 2 : a [ i ] < x",
    "all i from 0 to 9 : i [ i ] < x", "all i from 0 to 9 : old i [ i ] < x", "all i from 0 to 9 : a [ i ] < i",
    "all i from 0 to 9 : a [ i ] < i + 1", "all i from 0 to 9 : a [ i ] < len i", "all i from 0 to 9 : a [ i ] < len i - 1",
    "all i from 0 to 9 : a [ i ] < i [ i ]", "all i from 0 to 9 : a [ i ] < old i [ i ]", "all i from 0 to 9 : i [ i ] < b [ i ]",
    "all i from i to 9 : a [ i ] < b [ i ]", "all i from 0 to len i : a [ i ] < b [ i ]", "all a from 0 to 9 : a [ a ] < x",
)
VOCABULARY = (
    "a", "b", "i", "x", "old", "len", "result", "all", "sorted", "below", "either", "or", "from", "to",
    "and", "not", "(", ")", "[", "]", ",", ":", "+", "-", "0", "7", "<", "==", "=",
)


class ReadPromiseTest(unittest.TestCase):
    def test_each_form(self):
        for text, value in PROMISES.items():
            words = text.split()
            for written in (text, closely(words), widely(words)):
                self.assertEqual(read_promise(written), value, written)

    def test_each_sign(self):
        for sign in SIGNS:
            self.assertEqual(
                read_promise(f"all i from 0 to x: a[i]{sign}x"), ("all", A, ZERO, X, sign, X))
            self.assertEqual(
                read_promise(f"all i from 0 to x: a[i]{sign}b[i]"), ("match", A, ZERO, X, sign, B, 0))
            self.assertEqual(read_promise(f"x {sign} 0"), ("cmp", sign, X, ZERO))

    def test_each_plain_term_in_each_place(self):
        for text, term in PLAIN.items():
            one = ("num", 1)
            self.assertEqual(read_promise(f"sorted a from {text} to 1"), ("sorted", A, term, one))
            self.assertEqual(read_promise(f"sorted a from 1 to {text}"), ("sorted", A, one, term))
            self.assertEqual(
                read_promise(f"below a from {text} to 1, b from 1 to {text}"), ("below", A, term, one, B, one, term))
            self.assertEqual(
                read_promise(f"all i from {text} to {text}: a[i] < {text}"), ("all", A, term, term, "<", term))

    def test_no_cell_in_the_place_of_a_plain_term(self):
        for text in CELLS:
            for wrong in (
                f"sorted a from {text} to 1", f"sorted a from 1 to {text}", f"below a from 0 to 1, b from 1 to {text}",
                f"all i from {text} to 1: a[i] < 1", f"all i from 0 to {text}: a[i] < 1", f"all i from 0 to 1: a[i] < {text}",
            ):
                self.assertIsNone(read_promise(wrong), wrong)

    def test_no_promises(self):
        for text in NO_PROMISES:
            self.assertIsNone(read_promise(text), text)

    def test_name_behind_all_stands_nowhere_else(self):
        for text in NAME_ELSEWHERE:
            self.assertIsNone(read_promise(text), text)

    def test_changed_rows(self):
        chance = random.Random(7)
        kept = 0
        for text in list(PROMISES) + list(NAME_ELSEWHERE):
            for _ in range(600):
                words = changed_words(text.split(), chance, VOCABULARY)
                if chance.random() < 0.2 and words:
                    words = changed_words(words, chance, VOCABULARY)
                wanted = grammar.is_promise(words)
                kept += wanted
                self.assertEqual(read_promise(" ".join(words)) is not None, wanted, words)
        self.assertGreater(kept, 400)

    def test_wrong_characters(self):
        for text in PROMISES:
            for at in range(len(text)):
                for wrong in "\t\n!A.;*":
                    row = text[:at] + wrong + text[at + 1:]
                    if "!=" not in row.replace(" ", ""):
                        self.assertIsNone(read_promise(row), row)


if __name__ == "__main__":
    unittest.main()
