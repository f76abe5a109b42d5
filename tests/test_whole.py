"""The whole program: points 0, 1 and 12, and what README.md shows."""

import ast
import pathlib
import random
import re
import unittest

from examples import outline, some_program_words, some_tables
from splittalk.away import gaps, open_at
from splittalk.coarse import beside, least_groupings, merged
from splittalk.errors import TooLarge
from splittalk.formula import formula_table, read_formula
from splittalk.paper import paper_lines, read_paper
from splittalk.program import program_text, read_program
from splittalk.run import talk_of
from splittalk.split import Found, judge, settle
from splittalk.table import Table
from splittalk.talk import fits, longest

README = pathlib.Path(__file__).resolve().parent.parent / "README.md"


class FromTextToPaper(unittest.TestCase):

    def check(self, table, text, expected, many):
        """A program that is read, run to a talk, judged for a table, written and read as a paper."""
        program = read_program(text)
        talk = talk_of(program)
        found = Found("talk", talk, None)
        self.assertTrue(fits(table, talk))
        self.assertEqual(longest(talk), many)
        self.assertIs(judge(table, found), expected)
        lines = paper_lines(found)
        again = read_paper(table, lines)
        self.assertTrue(again == found)
        self.assertIs(judge(table, again), expected)
        self.assertEqual(paper_lines(again), lines)
        self.assertEqual(program_text(program), text)
        return talk

    def test_a_private_talk(self):
        table = Table([[0, 1], [2, 1]])
        talk = self.check(
            table, "rows 2 columns 2 var x 2 second x 2 1 own if = x 0 first x 2 1 own end", True, 2)
        self.assertTrue(settle(table) == Found("talk", talk, None))

    def test_the_least_of_both_values_and_who_has_it(self):
        table = formula_table(read_formula("+ * 2 - a - a b < b a"), 3, 3)
        self.assertEqual(table.rows, ((0, 0, 0), (1, 2, 2), (1, 3, 4)))
        talk = self.check(
            table, "rows 3 columns 3 var x 2 first x 2 1 < own 1 if = x 0 second x 2 1 < own 1 "
            "if = x 0 first x 2 1 < own 2 if = x 0 second x 2 1 < own 2 end end end", True, 4)
        self.assertEqual(longest(settle(table).talk), 4)
        # Its split talk tells the same, with groups that are counted from 0.
        self.assertFalse(settle(table).talk == talk)

    def test_what_a_talk_gives_away(self):
        table = Table([[0, 0], [0, 1]])
        talk = self.check(
            table, "rows 2 columns 2 var x 2 first x 2 1 own if x second x 2 1 own end", False, 2)
        self.assertIsNone(open_at(table, talk))
        self.assertEqual([gap[:4] for gap in gaps(table, talk)], [(2, 0, 0, 1)])
        self.assertEqual(paper_lines(settle(table)), ["barred", "0 1", "0 1"])

    def test_a_talk_with_lots(self):
        one = Table([[7, 7], [7, 7]])
        self.check(one, "rows 2 columns 2 var x 2 first x 2 3 lot second x 2 2 lot", True, 2)
        talk = self.check(one, "rows 2 columns 2 var x 2 first x 2 4 < lot + own 1", False, 1)
        self.assertEqual([(*gap[:4], str(gap[4])) for gap in gaps(one, talk)],
                         [(2, 0, 0, 1, "1/4"), (2, 1, 0, 1, "1/4")])
        # A lot that hides the value from both, too.
        self.check(one, "rows 2 columns 2 var x 2 first x 2 2 + own lot", True, 1)

    def test_a_talk_that_is_not_right(self):
        self.check(Table([[0, 1]]), "rows 1 columns 2", False, 0)
        self.check(Table([[0, 1]]), "rows 1 columns 2 var x 2 second x 2 3 * own lot", False, 1)

    def test_programs_by_chance(self):
        chance = random.Random(101)
        told = {True: 0, False: 0}
        for _ in range(300):
            program = read_program(" ".join(some_program_words(chance, most=3)))
            table = Table([[chance.choice((0, 0, 0, 1)) for _ in range(program.columns)]
                           for _ in range(program.rows)])
            try:
                found = Found("talk", talk_of(program), None)
            except TooLarge:
                continue
            again = read_paper(table, paper_lines(found))
            self.assertEqual(outline(again.talk), outline(found.talk))
            self.assertIs(judge(table, again), judge(table, found))
            told[judge(table, found)] += 1
        self.assertGreater(min(told.values()), 20)


class EveryTable(unittest.TestCase):

    def test_each_table_has_a_talk_or_a_barred_part(self):
        for table in some_tables(150, most=5, results=5, seed=102):
            found = settle(table)
            self.assertIs(judge(table, found), True)
            again = read_paper(table, paper_lines(found))
            self.assertTrue(again == found)
            self.assertIs(judge(table, again), True)
            coarser = merged(table, least_groupings(table)[0])
            self.assertEqual(settle(coarser).kind, "talk")
            self.assertEqual(coarser == merged(coarser, least_groupings(coarser)[0]), True)
            self.assertEqual(found.kind == "talk", len(least_groupings(table)[0]) == len(
                {result for row in table.rows for result in row}))

    def test_tables_side_by_side(self):
        for one, other in zip(some_tables(60, most=2, seed=103), some_tables(60, most=3, seed=104)):
            found = settle(beside(one, other))
            kinds = (settle(one).kind, settle(other).kind)
            self.assertEqual(found.kind, "barred" if "barred" in kinds else "talk")
            self.assertIs(judge(beside(one, other), found), True)


class Readme(unittest.TestCase):

    def test_what_it_shows(self):
        # Each value that stands in a comment behind its line is the value of that line.
        names = {}
        checked = 0
        for block in re.findall(r"```python\n(.*?)```", README.read_text(encoding="ascii"), re.S):
            lines = block.split("\n")
            for node in ast.parse(block).body:
                exec(compile(ast.Module([node], []), "README.md", "exec"), names)
                comment = lines[node.end_lineno - 1][node.end_col_offset:].strip()
                if isinstance(node, (ast.Assign, ast.Expr)) and comment.startswith("# "):
                    try:
                        told = eval(comment[2:].split(": ")[0], names)
                    except SyntaxError:
                        continue
                    source = ast.unparse(node.value)
                    if isinstance(node, ast.Assign):
                        source = node.targets[0].id
                    self.assertEqual(eval(source, names), told, source)
                    checked += 1
        self.assertGreaterEqual(checked, 25)

    def test_it_names_each_file(self):
        text = README.read_text(encoding="ascii")
        for path in (README.parent / "splittalk").glob("*.py"):
            if path.name != "__init__.py":
                self.assertIn(f"`{path.name}`", text)
