import ast
import inspect
import pathlib
import unittest

from swornrun import chains, checker, checks, closing, decide, errors, failing, heights, known, papers, program, reader, running
from swornrun import splits, starts, terms, truths, walks, words, writer

FOLDER = pathlib.Path(words.__file__).parent
FILES = sorted(FOLDER.glob("*.py"))
INTERFACE = {
    words.split_row: ["text"],
    words.is_name: ["word"],
    words.is_number: ["word"],
    terms.read_term: ["text"],
    terms.read_condition: ["text"],
    terms.read_promise: ["text"],
    terms.write_term: ["term"],
    terms.write_condition: ["condition"],
    terms.write_promise: ["promise"],
    program.Procedure: ["row", "name", "parameters", "needs", "gives", "moves", "falls", "lets", "body"],
    program.Procedure.same: ["self", "other"],
    program.Program: ["procedures"],
    program.Program.same: ["self", "other"],
    program.Program.called: ["self", "name"],
    program.statements_of: ["procedure"],
    program.changed_lists: ["program", "procedure"],
    program.changed_in: ["program", "procedure", "block"],
    reader.read_program: ["text"],
    writer.write_program: ["program"],
    checks.check_program: ["program"],
    truths.State: ["numbers", "lists", "old"],
    truths.value_of: ["term", "state"],
    truths.truth_of: ["promise", "state"],
    running.run_program: ["program", "name", "numbers", "lists", "choices", "steps"],
    chains.chain_sum: ["differences", "numbers"],
    chains.is_ring: ["differences", "numbers"],
    chains.keeps_all: ["differences", "values"],
    heights.Heights: ["many"],
    heights.Heights.tie: ["self", "difference"],
    heights.Heights.kept: ["self"],
    heights.Heights.grow: ["self", "many"],
    heights.Heights.twin: ["self"],
    known.Known: ["many", "differences", "lists", "cells", "taken", "fresh"],
    known.Known.new_number: ["self"],
    known.Known.length: ["self", "number"],
    known.Known.cell: ["self", "number", "index"],
    known.Known.twin: ["self"],
    known.named_indexes: ["known"],
    known.less: ["f", "g"],
    known.at_most: ["f", "g"],
    known.opposite: ["difference"],
    known.value_at: ["known", "values", "number", "k"],
    known.content: ["known", "values", "number"],
    splits.split_ways: ["known", "indexes", "split"],
    closing.close: ["known"],
    walks.Walk: ["program", "name"],
    walks.Walk.advance: ["self"],
    walks.Walk.ways: ["self"],
    walks.Walk.take: ["self", "number"],
    walks.Walk.twin: ["self"],
    walks.Walk.answers: ["self"],
    walks.Walk.start: ["self"],
    papers.Paper: ["text", "name", "tokens"],
    papers.Paper.same: ["self", "other"],
    papers.write_paper: ["paper"],
    papers.read_paper: ["text"],
    checker.check_closing: ["known", "tokens"],
    checker.check_paper: ["program", "name", "paper"],
    decide.decide: ["program", "name"],
    decide.decide_all: ["program"],
    failing.judge_failing: ["program", "name", "goal", "failing"],
    starts.find_start: ["program", "name"],
    errors.BadLine: ["row"],
    errors.BadText: ["row"],
    errors.BadProgram: ["row"],
    errors.BadPaper: ["row"],
}


class ShapeTest(unittest.TestCase):
    def test_interface(self):
        for thing, wanted in INTERFACE.items():
            self.assertEqual(list(inspect.signature(thing).parameters), wanted, thing)

    def test_interface_is_defined_in_its_files(self):
        for module, names in (
            (errors, "SwornError BadLine BadText BadProgram BadPaper BadStart NoProcedure"),
            (words, "split_row is_name is_number"),
            (terms, "read_term read_condition read_promise write_term write_condition write_promise"),
            (program, "Procedure Program statements_of changed_lists changed_in"),
            (reader, "read_program"),
            (writer, "write_program"),
            (checks, "check_program"),
            (truths, "State value_of truth_of"),
            (running, "Run run_program"),
            (chains, "chain_sum is_ring keeps_all"),
            (heights, "Heights"),
            (known, "Known named_indexes less at_most opposite value_at content"),
            (splits, "split_ways"),
            (closing, "close"),
            (walks, "Walk"),
            (papers, "Paper write_paper read_paper"),
            (checker, "check_closing check_paper"),
            (decide, "Verdict decide decide_all"),
            (failing, "judge_failing"),
            (starts, "find_start"),
        ):
            for name in names.split():
                self.assertEqual(getattr(module, name).__module__, module.__name__)
        for name in ("number_names", "list_names"):
            self.assertIsInstance(vars(program.Procedure)[name], property)

    def test_methods_stand_in_their_classes(self):
        for thing in INTERFACE:
            if inspect.isfunction(thing) and "." in thing.__qualname__:
                name, method = thing.__qualname__.split(".")
                self.assertIn(method, vars(getattr(inspect.getmodule(thing), name)))

    def test_checker_searches_nothing(self):
        """What the checker rests on does not lead to the search, nor to heights."""
        seen, pending = set(), ["checker"]
        while pending:
            name = pending.pop()
            if name not in seen:
                seen.add(name)
                text = (FOLDER / f"{name}.py").read_text()
                pending += [row.split()[1].split(".")[1] for row in text.split("\n") if row.startswith("from swornrun.")]
        self.assertEqual(seen & {"search", "closing", "heights", "pictures", "proofs", "decide"}, set())

    def test_only_plain_files(self):
        for path in FOLDER.iterdir():
            self.assertTrue(path.suffix == ".py" or path.name == "__pycache__", path)
        self.assertIn(FOLDER / "__init__.py", FILES)

    def test_sizes_and_characters(self):
        for path in FILES:
            text = path.read_bytes().decode("ascii")
            self.assertTrue(all(" " <= one <= "~" or one == "\n" for one in text), path)
            rows = text.split("\n")
            self.assertLessEqual(len(rows), 400, path)
            self.assertLessEqual(max(len(row) for row in rows), 120, path)
            for node in ast.walk(ast.parse(text)):
                if isinstance(node, ast.FunctionDef):
                    self.assertLessEqual(node.end_lineno - node.lineno + 1, 40, (path, node.name))

    def test_imports_only_from_the_package(self):
        for path in FILES:
            for node in ast.walk(ast.parse(path.read_text())):
                self.assertNotIsInstance(node, ast.Import, path)
                if isinstance(node, ast.ImportFrom):
                    self.assertTrue(node.module.startswith("swornrun.") or node.module == "heapq", path)


if __name__ == "__main__":
    unittest.main()
