import random
import unittest

import translated
from goodmaker import GoodMaker
from swornrun.checks import check_program
from swornrun.errors import BadStart, NoProcedure
from swornrun.reader import read_program
from swornrun.running import Run, run_program
from swornrun.writer import write_program


def good(text):
    program = read_program(text)
    check_program(program)
    return program


def proc(*rows, head="proc f(list a, x)"):
    """A procedure with the lets k and m, whose own rows begin at row 4."""
    return "\n".join([head, "let k = 0", "let m = 0", *rows, "end"])


class RunCase(unittest.TestCase):
    def run_of(self, text, numbers, lists, choices=(), steps=1000):
        name = text.rsplit("proc ", 1)[1].split("(")[0]
        return run_program(good(text), name, numbers, lists, choices, steps=steps)

    def assert_run(self, text, numbers, lists, outcome, ends=None, turns=None, choices=(), steps=1000):
        made = self.run_of(text, numbers, lists, choices, steps)
        self.assertIsInstance(made, Run)
        self.assertEqual(made.outcome, outcome, text)
        self.assertEqual(made.lists, lists if ends is None else ends, text)
        if turns is not None:
            self.assertEqual(made.turns, turns, text)


class StatementTest(RunCase):
    def test_terms(self):
        for term, value in (
            ("3", 3), ("-3", -3), ("x", 2), ("x + 1", 3), ("x - 9", -7), ("len a", 3), ("len a - 5", -2), ("a[0]", 5), ("a[x] + 1", 8),
            ("a[x - 1] - 9", -3), ("a[len a - 1]", 7),
        ):
            self.assert_run(proc(f"return {term}"), [2], [[5, 6, 7]], ("result", value))
            self.assert_run(proc(f"k = {term}", "return k"), [2], [[5, 6, 7]], ("result", value))
            self.assert_run(proc(f"a[1] = {term}", "return a[1]"), [2], [[5, 6, 7]], ("result", value), [[5, value, 7]])
            self.assert_run(f"proc f(list a, x)\nlet k = {term}\nreturn k\nend", [2], [[5, 6, 7]], ("result", value))

    def test_cells_outside(self):
        for index in ("-1", "3", "x", "len a", "x - 9", "99"):
            for row in (
                f"return a[{index}]", f"k = a[{index}]\nreturn 0", f"a[{index}] = 1\nreturn 0", f"a[0] = a[{index}]\nreturn 0",
                f"swap a[{index}], a[0]\nreturn 0", f"swap a[0], a[{index}]\nreturn 0", f"check a[{index}] < 1\nreturn 0",
                f"check 1 < a[{index}] + 1\nreturn 0", f"if a[{index}] == a[{index}]\nend\nreturn 0",
                f"while a[{index}] != 0\nfalls from x to 9\nend\nreturn 0",
            ):
                self.assert_run(proc("skip", row), [4], [[5, 6, 7]], ("fault", 5, "index"))
            self.assert_run(f"proc f(list a, x)\nlet k = 0\nlet m = a[{index}]\nreturn 0\nend", [4], [[5, 6, 7]], ("fault", 3, "index"))
        self.assert_run(proc("return a[0]"), [4], [[]], ("fault", 4, "index"))

    def test_put_takes_its_term_as_it_was(self):
        self.assert_run(proc("a[x] = 0", "return 0"), [1], [[3, 4]], ("result", 0), [[3, 0]])
        self.assert_run(proc("a[0] = a[1] + 1", "a[1] = a[0]", "return 0"), [0], [[3, 4]], ("result", 0), [[5, 5]])

    def test_faults_change_nothing(self):
        for row in ("a[2] = 9", "swap a[0], a[2]", "swap a[-1], a[1]", "a[0] = a[2]"):
            self.assert_run(proc("a[0] = 8", row, "return 0"), [0], [[3, 4]], ("fault", 5, "index"), [[8, 4]])

    def test_swap(self):
        for row, ends in (("a[0], a[2]", [7, 6, 5]), ("a[1], a[1]", [5, 6, 7]), ("a[x], a[x - 1]", [6, 5, 7]), ("a[len a - 1], a[1]", [5, 7, 6])):
            self.assert_run(proc(f"swap {row}", "return 0"), [1], [[5, 6, 7]], ("result", 0), [ends])

    def test_choose(self):
        for lo, hi, choice, value in (
            (0, 3, 0, 0), (0, 3, 2, 2), (0, 3, 3, 0), (0, 3, 5, 2), (0, 3, -1, 2), (0, 3, -3, 0), (0, 3, -4, 2), (-2, 1, 4, -1), (5, 6, 9, 5),
            (5, 6, -9, 5), (-5, -3, 1, -4), (0, 99, 10 ** 40, 10 ** 40 % 99), (0, 99, -10 ** 40, -10 ** 40 % 99),
        ):
            self.assert_run(proc(f"choose k from {lo} to {hi}", "return k"), [0], [[]], ("result", value), choices=[choice, 77])
        for lo, hi in ((0, 0), (1, 0), (3, -3), (-3, -3)):
            self.assert_run(proc("skip", f"choose k from {lo} to {hi}", "return k"), [0], [[]], ("fault", 5, "choose"), choices=[1])

    def test_choices_in_order_and_none_left(self):
        text = proc("choose k from 0 to 9", "choose m from 0 to 9", "a[0] = k", "a[1] = m", "choose k from 5 to 9", "return k")
        for choices, outcome, ends in (
            ([3, 4, 2], 7, [3, 4]), ([3, 4, 2, 8], 7, [3, 4]), ([3], 5, [3, 0]), ([], 5, [0, 0]), ((1, 2, 3), 8, [1, 2]),
        ):
            self.assert_run(text, [0], [[0, 0]], ("result", outcome), [ends], choices=choices)

    def test_choices_within_calls(self):
        first = "proc g()\nlet r = 0\nchoose r from 0 to 10\nreturn r\nend\n"
        text = first + proc("choose k from 0 to 10", "call m = g()", "a[0] = k", "a[1] = m", "choose k from 0 to 10", "a[2] = k", "return 0")
        self.assert_run(text, [0], [[0, 0, 0]], ("result", 0), [[4, 5, 6]], choices=[4, 5, 6])

    def test_check(self):
        for condition, outcome in (
            ("x < 3", ("result", 0)), ("x < 2", ("fault", 5, "check")), ("not x < 2", ("result", 0)), ("x < 3 and x < 2", ("fault", 5, "check")),
            ("x < 2 or x < 3", ("result", 0)), ("x == 2 and not x != 2", ("result", 0)), ("not (x < 3 or x < 2)", ("fault", 5, "check")),
            ("a[0] < 9", ("result", 0)), ("a[0] < 5", ("fault", 5, "check")),
        ):
            self.assert_run(proc("skip", f"check {condition}", "return 0"), [2], [[5]], outcome)

    def test_conditions_only_as_far_as_needed(self):
        for condition, wanted in (
            ("x < 3 or a[9] < 1", True), ("x < 2 and a[9] < 1", False), ("x < 2 or a[9] < 1", None), ("x < 3 and a[9] < 1", None),
            ("a[9] < 1 or x < 3", None), ("a[9] < 1 and x < 2", None), ("not a[9] < 1", None), ("not (x < 3 or a[9] < 1)", False),
            ("not (x < 2 and a[9] < 1)", True), ("(x < 3 or a[9] < 1) and x < 3", True), ("x < 2 and a[9] < 1 or x < 3", True),
            ("x < 3 and x < 2 and a[9] < 1", False), ("x < 2 or x < 3 or a[9] < 1", True), ("x < 3 and not (x < 2 and a[9] < 1)", True),
        ):
            if wanted is None:
                outcomes = [("fault", 4, "index")] * 3
            else:
                outcomes = [("result", 0) if wanted else ("fault", 4, "check"), ("result", 1 if wanted else 2), ("tired",) if wanted else ("result", 0)]
            self.assert_run(proc(f"check {condition}", "return 0"), [2], [[5]], outcomes[0])
            self.assert_run(proc(f"if {condition}", "return 1", "else", "return 2", "end"), [2], [[5]], outcomes[1])
            self.assert_run(proc(f"while {condition}", "falls from x to 9", "end", "return 0"), [2], [[5]], outcomes[2])

    def test_if(self):
        text = proc("if x < 1", "k = 1", "end", "if x < 2", "m = 5", "else", "m = 6", "k = k + 2", "end", "if x < 9", "else", "k = 50", "end", "a[0] = m", "return k")
        for number, value, cell in ((0, 1, 5), (1, 0, 5), (2, 2, 6), (9, 50, 6)):
            self.assert_run(text, [number], [[0]], ("result", value), [[cell]])

    def test_integers_of_any_size(self):
        big = 10 ** 50
        self.assert_run(proc("k = x + 1", "a[0] = k", "return a[1] - 1"), [big], [[0, -big]], ("result", -big - 1), [[big + 1, -big]])
        self.assert_run(proc("return a[x]"), [big], [[0]], ("fault", 4, "index"))


class WhileTest(RunCase):
    COUNT = proc("k = x", "while k < len a", "falls from k to len a", "a[k] = k", "k = k + 1", "end", "return k")

    def test_turns(self):
        self.assert_run(self.COUNT, [1], [[9, 9, 9]], ("result", 3), [[9, 1, 2]], [(5, 1, 3, 2)])
        self.assert_run(self.COUNT, [3], [[9, 9, 9]], ("result", 3), [[9, 9, 9]], [(5, 3, 3, 0)])
        self.assert_run(self.COUNT, [7], [[9, 9, 9]], ("result", 7), [[9, 9, 9]], [(5, 7, 3, 0)])

    def test_range_is_that_of_the_beginning(self):
        text = proc("while k < x", "falls from k - 1 to m + 2", "k = k + 1", "m = m + 5", "end", "return m")
        self.assert_run(text, [3], [[]], ("result", 15), turns=[(4, -1, 2, 3)])

    def test_nested(self):
        text = proc(
            "while k < 2", "falls from k to 2", "m = 0", "while m < k", "falls from m to k", "m = m + 1", "end", "k = k + 1", "end",
            "while x < 0", "falls from x to 0", "end", "return k",
        )
        self.assert_run(text, [3], [[]], ("result", 2), turns=[(7, 0, 0, 0), (7, 0, 1, 1), (4, 0, 2, 2), (13, 3, 0, 0)])

    def test_within_calls(self):
        first = "proc g(x)\nlet k = 0\nwhile k < x\nfalls from k to x\nk = k + 1\nend\nreturn k\nend\n"
        text = first + proc("while k < x", "falls from k to x", "call m = g(k)", "k = k + 1", "end", "return m")
        self.assert_run(text, [3], [[]], ("result", 2), turns=[(3, 0, 0, 0), (3, 0, 1, 1), (3, 0, 2, 2), (12, 0, 3, 3)])

    def test_only_those_that_were_left(self):
        text = proc("while k < 2", "falls from k to 2", "while m < 1", "falls from m to 1", "m = m + 1", "end", "k = a[k] + 1", "end", "return k")
        self.assert_run(text, [0], [[0]], ("fault", 10, "index"), turns=[(6, 0, 1, 1), (6, 1, 1, 0)])
        self.assert_run(text, [0], [[0]], ("tired",), turns=[(6, 0, 1, 1)], steps=5)
        self.assert_run(text, [0], [[0]], ("tired",), turns=[], steps=3)

    def test_keeps_and_falls_are_not_looked_at(self):
        text = "proc f(x)\nneeds x < 0\ngives result < 0\nfalls from x to 0\nlet k = 0\nwhile k < x\nkeeps k < 0\nfalls from x to 0\nk = k + 1\nend\nreturn k\nend"
        self.assert_run(text, [4], [], ("result", 4), turns=[(6, 4, 0, 4)])


class StepsTest(RunCase):
    def test_each_statement_counts(self):
        text = proc("k = 1", "if k < 2", "skip", "end", "while k < 3", "falls from k to 3", "k = k + 1", "end", "a[0] = k", "return k")
        # set, if, skip, three conditions and two turns of the while, put, return
        for steps in range(10):
            made = self.run_of(text, [0], [[0]], steps=steps)
            self.assertEqual(made.outcome, ("tired",))
            self.assertEqual(made.lists, [[3 if steps >= 9 else 0]])
            self.assertEqual(made.turns, [(8, 1, 3, 2)] if steps >= 8 else [])
        self.assert_run(text, [0], [[0]], ("result", 3), [[3]], [(8, 1, 3, 2)], steps=10)
        self.assert_run(text, [0], [[0]], ("result", 3), [[3]], [(8, 1, 3, 2)], steps=11)

    def test_statements_of_calls_count(self):
        first = "proc g(list c)\nlet r = 5\nc[0] = r\nreturn r\nend\n"
        text = first + proc("call k = g(a)", "a[1] = k", "return k")
        for steps, ends in ((0, [0, 0]), (1, [0, 0]), (2, [5, 0]), (3, [5, 0]), (4, [5, 5])):
            self.assert_run(text, [0], [[0, 0]], ("tired",), [ends], steps=steps)
        self.assert_run(text, [0], [[0, 0]], ("result", 5), [[5, 5]], steps=5)

    def test_lets_are_no_statements(self):
        self.assert_run("proc f(list a)\nlet k = a[0]\nlet m = k\nreturn m\nend", [], [[4]], ("result", 4), steps=1)
        self.assert_run("proc f(list a)\nlet k = a[0]\nlet m = k\nreturn m\nend", [], [[4]], ("tired",), steps=0)
        self.assert_run("proc f(list a)\nlet k = a[0]\nlet m = k\nreturn m\nend", [], [[]], ("fault", 2, "index"), steps=0)

    def test_a_fault_may_be_the_last_step(self):
        self.assert_run(proc("skip", "check 1 < 0", "return 0"), [0], [[]], ("fault", 5, "check"), steps=2)
        self.assert_run(proc("skip", "check 1 < 0", "return 0"), [0], [[]], ("tired",), steps=1)

    def test_a_thousand_steps(self):
        text = proc("while 0 < 1", "falls from x to 0", "k = k + 1", "a[0] = k", "end", "return 0")
        made = run_program(good(text), "f", [0], [[0]], [])
        self.assertEqual((made.outcome, made.lists, made.turns), (("tired",), [[333]], []))
        for more, outcome in ((4, ("result", 497)), (5, ("tired",))):
            count = proc(*["skip"] * more, "while k < x", "falls from k to x", "k = k + 1", "end", "return k")
            self.assertEqual(run_program(good(count), "f", [497], [[]], []).outcome, outcome)


class CallTest(RunCase):
    def test_arguments_in_any_order(self):
        first = "proc g(u, list c, v, list d)\nc[0] = u\nd[0] = v\nreturn len d\nend\n"
        text = first + "proc f(list a, x, list b, y)\nlet k = 0\ncall k = g(y, b, x + 5, a)\nreturn k\nend"
        made = run_program(good(text), "f", [1, 2], [[0, 0], [0, 0, 0]], [])
        self.assertEqual((made.outcome, made.lists), (("result", 2), [[6, 0], [2, 0, 0]]))
        made = run_program(good(text), "g", [1, 2], [[0, 0], [0, 0, 0]], [])
        self.assertEqual((made.outcome, made.lists), (("result", 3), [[1, 0], [2, 0, 0]]))

    def test_lists_are_handed_on_not_copied(self):
        first = "proc g(list c)\nlet r = 0\nc[0] = 5\nr = c[9]\nreturn r\nend\n"
        self.assert_run(first + proc("call k = g(a)", "return 0"), [0], [[0]], ("fault", 4, "index"), [[5]])

    def test_faults_within_calls_and_their_lets(self):
        first = "proc g(list c, u)\nlet r = c[u]\nlet s = c[u + 1]\ncheck s < 9\nreturn s\nend\n"
        text = first + proc("call k = g(a, x)", "return k")
        for number, outcome in ((0, ("result", 7)), (1, ("fault", 4, "check")), (2, ("fault", 3, "index")), (3, ("fault", 2, "index")), (-1, ("fault", 2, "index"))):
            self.assert_run(text, [number], [[8, 7, 9]], outcome)

    def test_names_of_the_called_procedure_are_its_own(self):
        first = "proc g(x)\nlet k = 9\nlet m = x\nm = m + 9\nk = 1\nreturn m\nend\n"
        self.assert_run(first + proc("k = 3", "call m = g(k)", "return k"), [0], [[]], ("result", 3))
        self.assert_run(first + proc("k = 3", "call m = g(k)", "return m"), [0], [[]], ("result", 12))
        self.assert_run(first + proc("k = 3", "call k = g(k)", "call k = g(k)", "return k"), [0], [[]], ("result", 21))

    def test_self_calls(self):
        text = "proc sum(list a, n)\nfalls from 0 to n\nlet r = 0\nlet k = 0\nif n < 1\nreturn 0\nelse\ncall r = sum(a, n - 1)\na[n - 1] = r\nreturn r + 1\nend\nend"
        self.assert_run(text, [3], [[9, 9, 9]], ("result", 3), [[0, 1, 2]])
        self.assert_run(text, [2], [[9]], ("fault", 9, "index"), [[0]])

    def test_calls_nested_deeply(self):
        text = "proc f(list a, x)\nfalls from 0 to x\nlet k = 0\nif x < 1\nreturn a[0]\nelse\ncall k = f(a, x - 1)\na[0] = k + 1\nreturn k + 1\nend\nend"
        for many in (10, 1500, 30000):
            self.assert_run(text, [many], [[7]], ("result", many + 7), [[many + 7]], steps=4 * many + 2)
            self.assert_run(text, [many], [[7]], ("tired",), steps=2 * many)
            self.assert_run(text, [many], [[]], ("fault", 5, "index"), steps=2 * many + 2)

    def test_calls_of_several_procedures_nested_deeply(self):
        first = "proc g(x)\nreturn x + 1\nend\n"
        text = first + "proc f(x, y)\nfalls from 0 to x\nlet k = 0\nlet m = 0\nwhile k < 1\nfalls from k to 1\nif 0 < x\ncall m = f(x - 1, y)\nend\ncall m = g(m)\nk = k + 1\nend\nreturn m\nend"
        made = self.run_of(text, [2000, 5], [], steps=10 ** 6)
        self.assertEqual(made.outcome, ("result", 2001))
        self.assertEqual(made.turns, [(8, 0, 1, 1)] * 2001)


class StartTest(RunCase):
    TEXT = "proc g(x, list a, y)\nreturn x\nend\nproc f()\nreturn 0\nend"

    def test_no_procedure(self):
        for name in ("h", "", "fg", "proc"):
            with self.assertRaises(NoProcedure):
                run_program(good(self.TEXT), name, [], [], [])
            with self.assertRaises(NoProcedure):
                run_program(good(self.TEXT), name, [1, 2, 3], [], [])

    def test_bad_start(self):
        for numbers in range(4):
            for lists in range(3):
                for name, wanted in (("g", (2, 1)), ("f", (0, 0))):
                    told = [4] * numbers, [[1]] * lists
                    if (numbers, lists) == wanted:
                        self.assertEqual(run_program(good(self.TEXT), name, *told, []).outcome[0], "result")
                    else:
                        with self.assertRaises(BadStart):
                            run_program(good(self.TEXT), name, *told, [])

    def test_steps_are_told_by_name(self):
        with self.assertRaises(TypeError):
            run_program(good(self.TEXT), "f", [], [], [], 5)

    def test_what_is_handed_in_stays(self):
        program = good(proc("a[0] = 9", "choose k from 0 to 5", "swap a[0], a[1]", "return 0"))
        numbers, lists, choices = [1], [[1, 2]], [1, 2]
        before = write_program(program)
        made = run_program(program, "f", numbers, lists, choices)
        self.assertEqual((numbers, lists, choices), ([1], [[1, 2]], [1, 2]))
        self.assertEqual(made.lists, [[2, 9]])
        self.assertEqual(write_program(program), before)
        made.lists[0].append(5)
        self.assertEqual(run_program(program, "f", (1,), ((1, 2),), (1, 2)).lists, [[2, 9]])

    def test_kinds_of_values(self):
        made = run_program(good(WhileTest.COUNT), "f", (0,), ((5,),), ())
        self.assertEqual(made.outcome, ("result", 1))
        self.assertEqual((type(made.outcome), type(made.lists), type(made.lists[0])), (tuple, list, list))
        self.assertEqual((type(made.turns), type(made.turns[0])), (list, tuple))


class RandomTest(unittest.TestCase):
    def test_against_python(self):
        chance = random.Random(41)
        maker = GoodMaker(chance)
        kinds = []
        for _ in range(700):
            program, text, parameters = maker.program()
            for steps in (1000, 60, 9):
                told = [
                    [chance.randrange(-3, 5) for _ in range(chance.randrange(5))] if is_list else chance.randrange(-3, 6)
                    for _, is_list in parameters
                ]
                lists = [one for one in told if isinstance(one, list)]
                numbers = [one for one in told if not isinstance(one, list)]
                choices = [chance.randrange(-20, 20) for _ in range(chance.randrange(6))]
                wanted = translated.run(text, program.procedures[-1].name, told, choices, steps)
                made = run_program(program, program.procedures[-1].name, numbers, lists, choices, steps=steps)
                self.assertEqual((made.outcome, made.lists, made.turns), wanted, (text, told, choices, steps))
                kinds.append(made.outcome[0::2])
                self.assert_moved(program.procedures[-1], lists, made)
        self.assertEqual(len(set(kind[1:] if kind[0] == "fault" else kind[:1] for kind in kinds)), 5)

    def assert_moved(self, procedure, lists, made):
        """Behind a run that gives a result a moved list has its cells in some order."""
        for name, before, after in zip(procedure.list_names, lists, made.lists):
            self.assertEqual(len(before), len(after))
            if made.outcome[0] == "result" and name in procedure.moves:
                self.assertEqual(sorted(before), sorted(after))


if __name__ == "__main__":
    unittest.main()
