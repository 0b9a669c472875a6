import itertools
import random
import unittest

from swornrun.program import Procedure, Program, changed_in, changed_lists, statements_of

X = ("var", "x", 0)
ZERO = ("num", 0)
ONE = ("num", 1)
P = ("cmp", "<", X, ONE)
FALLS = (ZERO, X)


def procedure(name, parameters, *body, falls=None, row=1):
    """Make a procedure whose parameters are told as in a text: "list a, x"."""
    pairs = []
    for told in parameters.split(",") if parameters else []:
        pairs.append((told.split()[-1], told.split()[0] == "list"))
    return Procedure(row, name, tuple(pairs), (), (), (), falls, ((row + 1, "r", ZERO),), tuple(body))


def put(row, name):
    return ("put", row, name, ZERO, ONE)


def swap(row, name):
    return ("swap", row, name, ZERO, ONE)


def call(row, name, *arguments):
    """A call whose arguments are names of lists, or plain terms."""
    values = [("list", one) if isinstance(one, str) else one for one in arguments]
    return ("call", row, "r", name, tuple(values))


def back(row):
    return ("return", row, ("cell", ("a", False), ZERO, 0))


NINE = (
    3, "find", (("a", True), ("x", False)), (P,), (("sorted", ("a", False), ZERO, ONE),), ("a",), FALLS,
    ((7, "m", ZERO),), (("skip", 8), ("return", 9, X)),
)
OTHERS = (
    4, "fine", (("a", False), ("x", False)), (P, P), (), ("a", "a"), None, ((7, "m", ONE),), (("skip", 8), ("return", 10, X)),
)
NO_TEXT_GIVES = (0, "", (("x", True), ("x", True)), ("?",), (("odd", 1),), ("?",), (), (1,), ())


class ProcedureTest(unittest.TestCase):
    NAMES = ("row", "name", "parameters", "needs", "gives", "moves", "falls", "lets", "body")

    def test_attributes(self):
        made = Procedure(*NINE)
        named = Procedure(**dict(zip(self.NAMES, NINE)))
        for name, value in zip(self.NAMES, NINE):
            self.assertEqual(getattr(made, name), value)
            self.assertEqual(getattr(named, name), value)

    def test_names_of_parameters(self):
        for text, numbers, lists in (
            ("", [], []), ("x", ["x"], []), ("list a", [], ["a"]), ("list b,y,list a,x", ["y", "x"], ["b", "a"]),
            ("d,c,b,a", ["d", "c", "b", "a"], []), ("list d,list c,list b", [], ["d", "c", "b"]),
        ):
            made = procedure("f", text)
            self.assertEqual(made.number_names, numbers)
            self.assertEqual(made.list_names, lists)

    def test_changed_names_change_no_later_answer(self):
        made = procedure("f", "list a,x")
        made.number_names.append("y")
        made.list_names.clear()
        self.assertEqual((made.number_names, made.list_names), (["x"], ["a"]))

    def test_same(self):
        for values in (NINE, OTHERS, NO_TEXT_GIVES):
            self.assertIs(Procedure(*values).same(Procedure(*values)), True)

    def test_each_attribute_counts(self):
        for other in (OTHERS, NO_TEXT_GIVES):
            for at in range(9):
                values = NINE[:at] + (other[at],) + NINE[at + 1:]
                self.assertIs(Procedure(*NINE).same(Procedure(*values)), False, self.NAMES[at])
                self.assertIs(Procedure(*values).same(Procedure(*NINE)), False, self.NAMES[at])

    def test_rows_of_statements_count(self):
        self.assertFalse(procedure("f", "x", back(3)).same(procedure("f", "x", back(4))))

    def test_something_else_is_not_the_same(self):
        for other in (None, "find", NINE, Program((Procedure(*NINE),))):
            self.assertIs(Procedure(*NINE).same(other), False)


class ProgramTest(unittest.TestCase):
    def test_procedures(self):
        one, two = procedure("f", "x"), procedure("g", "x")
        self.assertEqual(Program((one, two)).procedures, (one, two))
        self.assertEqual(Program(procedures=()).procedures, ())

    def test_same(self):
        one, two, three = [lambda name=name: procedure(name, "x", back(3)) for name in ("f", "g", "h")]
        for many in ((), (one,), (one, two), (one, two, three), (one, one)):
            self.assertIs(Program(tuple(make() for make in many)).same(Program(tuple(make() for make in many))), True)
        for left, right in (
            ((), (one,)), ((one,), ()), ((one,), (two,)), ((one, two), (two, one)), ((one, two), (one,)),
            ((one,), (one, two)), ((one, two), (one, three)), ((one,), (one, one)),
        ):
            self.assertIs(Program(tuple(make() for make in left)).same(Program(tuple(make() for make in right))), False)

    def test_same_looks_at_every_attribute(self):
        for at in range(9):
            for other in (OTHERS, NO_TEXT_GIVES):
                values = NINE[:at] + (other[at],) + NINE[at + 1:]
                self.assertFalse(Program((Procedure(*NINE),)).same(Program((Procedure(*values),))))

    def test_something_else_is_not_the_same(self):
        for other in (None, (), Procedure(*NINE), "proc"):
            self.assertIs(Program(()).same(other), False)

    def test_called(self):
        one, two = procedure("f", "x"), procedure("g", "x")
        program = Program((one, two))
        self.assertIs(program.called("f"), one)
        self.assertIs(program.called("g"), two)
        for name in ("h", "", "F", "fg"):
            self.assertIsNone(program.called(name))
        self.assertIsNone(Program(()).called("f"))


class StatementsTest(unittest.TestCase):
    def setUp(self):
        self.deepest = ("set", 8, "r", X)
        self.loop = ("while", 5, P, (P,), FALLS, (self.deepest, ("skip", 9)))
        self.inner = ("if", 4, P, (self.loop,), (swap(12, "a"),))
        self.outer = ("if", 3, P, (self.inner, put(14, "a")), ())
        self.whole = procedure("f", "list a,x", self.outer, ("check", 16, P), ("return", 17, X))

    def test_within_blocks_by_rows(self):
        found = statements_of(self.whole)
        self.assertEqual([one[1] for one in found], [3, 4, 5, 8, 9, 12, 14, 16, 17])
        self.assertEqual(found[:4], [self.outer, self.inner, self.loop, self.deepest])

    def test_each_kind(self):
        body = (
            ("set", 3, "r", X), put(4, "a"), swap(5, "a"), ("choose", 6, "r", ZERO, X), call(7, "f", "a", X), ("check", 8, P),
            ("skip", 9), ("if", 10, P, (), ()), ("while", 12, P, (), FALLS, ()), ("return", 15, X),
        )
        self.assertEqual(statements_of(procedure("f", "list a,x", *body)), list(body))

    def test_no_statements(self):
        self.assertEqual(statements_of(procedure("f", "")), [])

    def test_changed_answer_changes_no_later_one(self):
        found = statements_of(self.whole)
        wanted = list(found)
        found.reverse()
        found.append("more")
        self.assertEqual(statements_of(self.whole), wanted)
        self.assertEqual(self.whole.body[0], self.outer)

    def test_deep_blocks(self):
        block = ()
        for row in range(40, 2, -1):
            block = (("if", row, P, block, ()) if row % 2 else ("while", row, P, (), FALLS, block),)
        self.assertEqual([one[1] for one in statements_of(procedure("f", "x", *block))], list(range(3, 41)))


class ChangedTest(unittest.TestCase):
    def check(self, procedures, wanted):
        """Tell what each procedure changes, as one word: the names of its lists."""
        program = Program(tuple(procedures))
        for one in procedures:
            expected = wanted[one.name].split()
            self.assertEqual(changed_lists(program, one), expected, one.name)
            self.assertEqual(changed_in(program, one, one.body), expected, one.name)

    def test_written_and_swapped(self):
        self.check([procedure("f", "list a,list b,x", put(3, "b"), back(4))], {"f": "b"})
        self.check([procedure("f", "list a,list b,x", swap(3, "a"), back(4))], {"f": "a"})
        self.check([procedure("f", "list a,list b,x", put(3, "b"), swap(4, "a"), put(5, "b"), back(6))], {"f": "a b"})

    def test_other_statements_change_nothing(self):
        cell = ("cell", ("a", False), ZERO, 0)
        self.check([procedure(
            "f", "list a,x", ("set", 3, "r", cell), ("choose", 4, "r", ZERO, ("len", "a", 0)),
            ("check", 5, ("cmp", "<", cell, cell)), ("skip", 6), ("if", 7, ("cmp", "<", cell, cell), (("skip", 8),), ()),
            ("while", 9, ("cmp", "<", cell, cell), (("sorted", ("a", False), ZERO, X),), FALLS, (("skip", 12),)), back(14),
        )], {"f": ""})
        self.check([procedure("f", "", back(3))], {"f": ""})

    def test_order_of_the_parameters(self):
        for names in itertools.permutations("abc"):
            body = [put(3, "c"), swap(4, "a"), put(5, "b"), back(6)]
            self.check([procedure("f", ",".join(f"list {name}" for name in names), *body)], {"f": " ".join(names)})

    def test_handed_to_a_call_above(self):
        first = procedure("f", "x,list a,y,list b", put(3, "b"), back(4))
        second = procedure("g", "list c,list d,list e", call(3, "f", X, "d", ONE, "c"), back(4))
        third = procedure("h", "list c,list d,list e", call(3, "g", "e", "c", "d"), back(4))
        self.check([first, second, third], {"f": "b", "g": "c", "h": "e"})

    def test_handed_to_a_call_that_does_not_change_it(self):
        first = procedure("f", "list a", back(3))
        second = procedure("g", "list a,list b", call(3, "f", "a"), put(4, "b"), back(5))
        third = procedure("h", "list a,list b", call(3, "g", "b", "a"), back(4))
        self.check([first, second, third], {"f": "", "g": "b", "h": "a"})

    def test_same_names_in_other_procedures(self):
        first = procedure("f", "list a,list b", put(3, "a"), back(4))
        second = procedure("g", "list a,list b", call(3, "f", "b", "a"), back(4))
        self.check([first, second], {"f": "a", "g": "b"})

    def test_handed_to_the_procedure_itself(self):
        turned = procedure("f", "list a,list b,list c,x", call(3, "f", "c", "a", "b", X), put(4, "a"), back(5), falls=FALLS)
        self.check([turned], {"f": "a b c"})
        still = procedure("f", "list a,list b,list c,x", call(3, "f", "a", "c", "b", X), put(4, "a"), back(5), falls=FALLS)
        self.check([still], {"f": "a"})
        swapped = procedure("f", "list a,list b,list c,x", call(3, "f", "a", "c", "b", X), put(4, "c"), back(5), falls=FALLS)
        self.check([swapped], {"f": "b c"})
        nothing = procedure("f", "list a,list b,x", call(3, "f", "b", "a", X), back(4), falls=FALLS)
        self.check([nothing], {"f": ""})

    def test_through_the_procedure_itself_and_one_above(self):
        first = procedure("f", "list p,list q", swap(3, "q"), back(4))
        second = procedure(
            "g", "list a,list b,list c,list d,x", call(3, "g", "b", "a", "d", "c", X), call(4, "f", "a", "b"), back(5),
            falls=FALLS)
        third = procedure("h", "list a,list b,list c,list d", call(3, "g", "d", "b", "c", "a", X), back(4))
        self.check([first, second, third], {"f": "q", "g": "a b", "h": "b d"})

    def test_within_blocks(self):
        inner = ("while", 4, P, (), FALLS, (("if", 6, P, (("skip", 7),), (put(9, "c"),)),))
        whole = procedure("f", "list a,list b,list c", ("if", 3, P, (inner,), (swap(13, "a"),)), back(15))
        self.check([whole], {"f": "a c"})

    def test_blocks_of_a_procedure(self):
        low = procedure("f", "list a,list b", put(3, "b"), back(4))
        deep = ("if", 6, P, (put(7, "d"),), (call(9, "f", "d", "c"),))
        loop = ("while", 4, P, (), FALLS, (deep, swap(11, "b")))
        high = procedure(
            "g", "list d,list b,list c,list a,x", ("if", 3, P, (loop,), (("skip", 14),)), put(16, "a"), back(17), row=1)
        program = Program((low, high))
        for block, wanted in (
            (high.body, ["d", "b", "c", "a"]), ((loop,), ["d", "b", "c"]), (loop[5], ["d", "b", "c"]), ((deep,), ["d", "c"]),
            (deep[3], ["d"]), (deep[4], ["c"]), ((swap(11, "b"),), ["b"]), ((("skip", 14),), []), ((), []), ((back(17),), []),
        ):
            self.assertEqual(changed_in(program, high, block), wanted)

    def test_self_call_in_a_block_changes_what_the_whole_changes(self):
        again = call(4, "f", "b", "a", X)
        whole = procedure("f", "list a,list b,list c,x", ("if", 3, P, (again,), (put(6, "a"),)), back(8), falls=FALLS)
        program = Program((whole,))
        self.assertEqual(changed_in(program, whole, (again,)), ["a", "b"])
        self.assertEqual(changed_in(program, whole, (put(6, "a"),)), ["a"])
        once = call(4, "f", "c", "b", X)
        self.assertEqual(changed_in(program, whole, (once,)), ["b", "c"])

    def test_equal_attributes_are_enough(self):
        def make():
            return procedure("f", "list a,list b,x", call(3, "f", "b", "a", X), put(4, "a"), back(5), falls=FALLS)
        self.assertEqual(changed_lists(Program((make(),)), make()), ["a", "b"])

    def test_changed_answer_changes_no_later_one(self):
        whole = procedure("f", "list a,list b", put(3, "a"), back(4))
        program = Program((whole,))
        changed_lists(program, whole).append("b")
        changed_in(program, whole, whole.body).clear()
        self.assertEqual(changed_lists(program, whole), ["a"])
        self.assertEqual(changed_in(program, whole, whole.body), ["a"])

    def test_as_told_step_by_step(self):
        chance = random.Random(3)
        for _ in range(400):
            procedures = []
            for at, name in enumerate("fghk"):
                body = [random_change(chance, row, procedures, name) for row in range(3, 3 + chance.randrange(4))]
                procedures.append(procedure(name, "list a,list b,list c,list d", *body, falls=FALLS))
            wanted = told_changes(procedures)
            self.check(procedures, {name: " ".join(sorted(wanted[name])) for name in wanted})


def random_change(chance, row, above, name):
    lists = [chance.choice("abcd") for _ in range(4)]
    if chance.random() < 0.4:
        return chance.choice((put, swap))(row, chance.choice("abcd"))
    if chance.random() < 0.2:
        return ("if", row, P, (random_change(chance, row, above, name),), ())
    called = chance.choice([one.name for one in above] + [name])
    return call(row, called, *chance.sample("abcd", 4)) if chance.random() < 0.9 else call(row, called, *lists)


def told_changes(procedures):
    """Take one step of the definition at a time, as long as there is one."""
    changes = {one.name: set() for one in procedures}
    while True:
        more = []
        for one in procedures:
            for statement in statements_of(one):
                if statement[0] in ("put", "swap"):
                    more.append((one.name, statement[2]))
                if statement[0] == "call":
                    pairs = zip("abcd", statement[4])
                    more += [(one.name, told[1]) for name, told in pairs if name in changes[statement[3]]]
        more = [(name, changed) for name, changed in more if changed not in changes[name]]
        if not more:
            return changes
        changes[more[0][0]].add(more[0][1])


if __name__ == "__main__":
    unittest.main()
