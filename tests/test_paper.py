"""Papers: points 1, 14 and 21 and splittalk/paper.py."""

import random
import unittest

from examples import by, deep, ends, outline, say, some_tables, some_talk, surely
from splittalk.errors import BadPaper, TalkError
from splittalk.paper import paper_lines, read_paper
from splittalk.ratio import Ratio
from splittalk.split import Found, judge, settle
from splittalk.table import Table
from splittalk.talk import End, Say

# Two rows and three columns.
TABLE = Table([[0, 1, 2], [0, 3, 4]])
EIGHT = Table([[0] * 8] * 8)
SAYS = ["talk", "first 2", "1/2 1/2", "0 1", "second 1", "1", "1", "1", "end", "end"]
BARRED = ["barred", "0 2", "1 3 7"]


def found_by(talk):
    return Found("talk", talk, None)


class Paper(unittest.TestCase):

    def at_of(self, lines, table=TABLE):
        """The at of the BadPaper that reading raises, or None; lines stay and may be a tuple."""
        kept = list(lines)
        told = []
        for passed in (lines, tuple(lines)):
            try:
                read_paper(table, passed)
                told.append(None)
            except BadPaper as error:
                self.assertIsInstance(error, TalkError)
                told.append(error.at)
        self.assertEqual(lines, kept)
        self.assertEqual(told[0], told[1])
        return told[0]

    def check(self, found, lines, table=TABLE):
        """What is found has just these lines, and they are read again."""
        made = paper_lines(found)
        self.assertIs(type(made), list)
        self.assertEqual(made, lines)
        again = read_paper(table, lines)
        self.assertIsInstance(again, Found)
        self.assertTrue(again == found)
        self.assertEqual((again.kind, again.part), (found.kind, found.part))
        if found.kind == "talk":
            self.assertEqual(outline(again.talk), outline(found.talk))
        else:
            self.assertIsNone(again.talk)
        self.assertTrue(read_paper(table, tuple(lines)) == found)


class Writing(Paper):

    def test_end(self):
        self.check(found_by(End()), ["talk", "end"])

    def test_first_and_second(self):
        self.check(found_by(by(1, [0, 1])), ["talk", "first 2", "1 0", "0 1", "end", "end"])
        self.check(found_by(by(2, [0, 2, 1])),
                   ["talk", "second 3", "1 0 0", "0 0 1", "0 1 0", "end", "end", "end"])
        self.check(found_by(by(1, [0, 0])), ["talk", "first 1", "1", "1", "end"])

    def test_fractions(self):
        self.check(found_by(say(1, ["1/2 1/3 1/6", "2/3 0 1/3"], ends(3))),
                   ["talk", "first 3", "1/2 1/3 1/6", "2/3 0 1/3", "end", "end", "end"])

    def test_a_node_ahead_of_its_parts_and_earlier_parts_first(self):
        talk = surely(1, [0, 2], [by(2, [0, 1, 1]), End(), surely(2, [1, 0, 0], [by(1, [1, 0]), End()])])
        self.check(found_by(talk), [
            "talk", "first 3", "1 0 0", "0 0 1",
            "second 2", "1 0", "0 1", "0 1", "end", "end",
            "end",
            "second 2", "0 1", "1 0", "1 0", "first 2", "0 1", "1 0", "end", "end", "end",
        ])

    def test_barred(self):
        self.check(Found("barred", None, ((0, 1), (0, 2))), ["barred", "0 1", "0 2"])
        self.check(Found("barred", None, ((1,), (0, 1, 2))), ["barred", "1", "0 1 2"])
        eight = tuple(range(8))
        self.check(Found("barred", None, (eight, eight)),
                   ["barred", "0 1 2 3 4 5 6 7", "0 1 2 3 4 5 6 7"])

    def test_parts_of_lists(self):
        self.check(Found("barred", None, [[0, 1], [2]]), ["barred", "0 1", "2"])

    def test_what_is_settled(self):
        kinds = set()
        for table in some_tables(150, most=6, results=16, seed=91):
            found = settle(table)
            kinds.add(found.kind)
            self.check(found, paper_lines(found), table)
            self.assertIs(judge(table, read_paper(table, paper_lines(found))), True)
        self.assertEqual(kinds, {"talk", "barred"})

    def test_talks_by_chance(self):
        chance = random.Random(92)
        for table in some_tables(150, seed=93):
            found = found_by(some_talk(chance, table, 4))
            before = outline(found.talk)
            self.check(found, paper_lines(found), table)
            self.assertEqual(outline(found.talk), before)

    def test_long_ways(self):
        for many in (200, 260, 3000):
            found = found_by(deep(many, TABLE))
            lines = paper_lines(found)
            self.assertEqual(len(lines), 1 + many + 1 + (many + 1) // 2 * 2 + many // 2 * 3 + many)
            self.assertTrue(read_paper(TABLE, lines) == found)
            self.assertEqual(self.at_of([*lines, "end"]), len(lines))
            self.assertEqual(self.at_of(lines[:-1]), len(lines) - 1)

    def test_99_messages(self):
        one = Table([[0]])
        found = found_by(by(1, [98]))
        self.check(found, ["talk", "first 99", " ".join(["0"] * 98 + ["1"])] + ["end"] * 99, one)

    def test_a_paper_beyond_the_limits_is_written(self):
        self.assertEqual(paper_lines(found_by(by(1, [99])))[1], "first 100")
        den = 10 ** 70
        talk = Say(1, [[Ratio(1, den), Ratio(den - 1, den)]], ends(2))
        self.assertEqual(paper_lines(found_by(talk))[2], f"1/{den} {den - 1}/{den}")

    def test_new_lists(self):
        found = found_by(by(1, [0, 1]))
        paper_lines(found).clear()
        self.assertEqual(len(paper_lines(found)), 6)


class Reading(Paper):

    def wrong(self, lines, at, table=TABLE):
        self.assertEqual(self.at_of(lines, table), at, lines)

    def test_right(self):
        self.wrong(SAYS, None)
        self.wrong(BARRED, None)
        self.wrong(["talk", "end"], None)

    def test_no_lines(self):
        self.wrong([], 0)

    def test_the_first_line(self):
        for line in ("", " ", "talks", "Talk", "TALK", "talk ", " talk", "talk\n", "\ttalk", "end",
                     "bar", "barred ", "Barred", "0 1", "talk barred", "talk end", "first 2", "kind"):
            self.wrong([line], 0)
            self.wrong([line, "end"], 0)
            self.wrong([line, "0", "0"], 0)

    def test_missing_lines(self):
        for lines in (SAYS, BARRED, ["talk", "end"]):
            for many in range(len(lines)):
                self.wrong(lines[:many], many)

    def test_lines_that_are_there_are_asked_first(self):
        self.wrong(["talk", "first 2", "1 1"], 2)
        self.wrong(["talk", "first 0"], 1)
        self.wrong(["barred", "8"], 1)
        self.wrong(["barred", ""], 1)
        self.wrong(["talk", "first 2", "1 0", "0 1", "ends"], 4)

    def test_lines_behind_the_end(self):
        for lines in (SAYS, BARRED, ["talk", "end"]):
            for more in ("", "end", "talk", "barred", "0 1", " ", "first 1"):
                self.wrong([*lines, more], len(lines))
                self.wrong([*lines, more, "end"], len(lines))

    def test_each_line_left_out(self):
        for at, wrong in enumerate((0, 1, 3, 3, 4, 7, 7, 7, 9, 9)):
            self.wrong(SAYS[:at] + SAYS[at + 1:], wrong)
        for at, wrong in enumerate((0, 2, 2)):
            self.wrong(BARRED[:at] + BARRED[at + 1:], wrong)

    def test_each_line_doubled(self):
        for at, wrong in enumerate((1, 2, 4, 4, 5, 8, 8, 8, 10, 10)):
            self.wrong(SAYS[:at + 1] + SAYS[at:], wrong)
        for at, wrong in enumerate((1, 3, 3)):
            self.wrong(BARRED[:at + 1] + BARRED[at:], wrong)

    def test_each_line_empty(self):
        for lines in (SAYS, BARRED):
            for at in range(len(lines)):
                self.wrong([*lines[:at], "", *lines[at + 1:]], at)
                self.wrong([*lines[:at], "", *lines[at:]], at)

    def test_each_line_moved(self):
        # Both lists of the lots of person 1 may stand the other way around.
        for at, wrong in enumerate((0, 1, None, 3, 4, None, None, 7, None)):
            self.wrong([*SAYS[:at], SAYS[at + 1], SAYS[at], *SAYS[at + 2:]], wrong)
        self.wrong([*SAYS[1:], SAYS[0]], 0)
        self.wrong([SAYS[0], *SAYS[2:], SAYS[1]], 1)
        self.wrong(["talk", "end", "first 1", "1", "1"], 2)
        self.wrong(["0 2", "barred", "1 3 7"], 0)
        self.wrong(["barred", "1 3 7", "0 2"], None)

    def test_each_space(self):
        for lines in (SAYS, BARRED, ["talk", "second 2", "1/3 2/3", "0 1", "1 0", "end", "end"]):
            for at, line in enumerate(lines):
                for wrong in (f" {line}", f"{line} ", f"{line}  ", f"{line}\n", f"{line}\t",
                              f"\t{line}"):
                    self.wrong([*lines[:at], wrong, *lines[at + 1:]], at)
                for sign in ("  ", "\t", "\n", ",", " , "):
                    if " " in line:
                        self.wrong([*lines[:at], line.replace(" ", sign), *lines[at + 1:]], at)

    def test_nodes(self):
        for line in ("ends", "End", "end 0", "end 1", "talk", "barred", "first", "second", "first ",
                     "third 1", "1", "0 1", "First 1", "first 1 1", "first one", "say 1 1", "1 first",
                     "first1", "first -1", "first +1", "first 1.0", "first 1/1", "second 2/1",
                     "first 1 first 1", "first x", "if 1"):
            self.wrong(["talk", line], 1)
            self.wrong(["talk", line, "1", "1", "1", "end"], 1)
            self.wrong(["talk", "first 1", "1", "1", line], 4)

    def test_numbers_of_messages(self):
        for word, values in (("first", 2), ("second", 3)):
            for many in (1, 2, 9, 10, 98, 99):
                lot = " ".join(["0"] * (many - 1) + ["1"])
                lines = ["talk", f"{word} {many}"] + [lot] * values + ["end"] * many
                self.wrong(lines, None)
                self.wrong(lines[:-1], len(lines) - 1)
                self.wrong([*lines, "end"], len(lines))
            for number in ("0", "100", "101", "999", "65535", "65536", "100000", "01", "09", "00",
                           "001", "099"):
                many = int(number)
                lot = " ".join(["1"] + ["0"] * (min(many, 200) - 1))
                lines = ["talk", f"{word} {number}"] + [lot] * values + ["end"] * min(many, 200)
                self.wrong(lines, 1)

    def test_a_line_for_each_value_of_the_person(self):
        for rows in range(1, 9):
            for columns in range(1, 9):
                table = Table([[0] * columns] * rows)
                for word, values in (("first", rows), ("second", columns)):
                    self.wrong(["talk", f"{word} 1", *["1"] * values, "end"], None, table)
                    self.wrong(["talk", f"{word} 1", *["1"] * (values - 1), "end"], 1 + values, table)
                    self.wrong(["talk", f"{word} 1", *["1"] * (values + 1), "end"], 2 + values, table)

    def lot_line(self, line, right, many):
        """A line of lots in the first place and in the last."""
        good = " ".join(["0"] * (many - 1) + ["1"])
        behind = ["end"] * many
        self.wrong(["talk", f"first {many}", line, good, *behind], None if right else 2)
        self.wrong(["talk", f"second {many}", good, good, line, *behind], None if right else 4)
        self.wrong(["talk", "first 1", "1", "1", f"first {many}", good, line, *behind],
                   None if right else 6)

    def test_lots(self):
        for line in ("1 0", "0 1", "1/2 1/2", "1/3 2/3", "99/100 1/100", "65536/65537 1/65537"):
            self.lot_line(line, True, 2)
        for line in ("1", "1/1", "0/1", "2", "1/2 1/2 0"):
            self.lot_line(line, line == "1", 1)
        for line in ("1/2 1/3 1/6", "0 0 1", "1/7 5/7 1/7", "2/5 1/5 2/5"):
            self.lot_line(line, True, 3)

    def test_too_few_and_too_many_lots(self):
        for line in ("1", "1 0 0", "0 0 1", "1/2 1/4 1/4", "", "1 0 ", " 1 0", "0 1 0 0"):
            self.lot_line(line, False, 2)
        for line in ("1 0", "", "1 1", "1 "):
            self.lot_line(line, False, 1)

    def test_sums_other_than_1(self):
        for line in ("0 0", "1 1", "1/2 0", "1/2 1/3", "2 0", "1/2 2/3", "1 1/1000", "1/3 1/3",
                     f"1/2 {10 ** 59}/{2 * 10 ** 59 + 1}"):
            self.lot_line(line, False, 2)

    def test_negative_lots(self):
        for line in ("-1 2", "2 -1", "3/2 -1/2", "-1/2 3/2", "1 -0", "-0 1", "1 +0", "+1 0",
                     "1/2 +1/2", "3/2 1/-2", "-1 -1"):
            self.lot_line(line, False, 2)

    def test_lowest_terms(self):
        for line in ("2/4 1/2", "1/2 2/4", "2/4 2/4", "3/6 3/6", "2/6 2/3", "5/10 1/2"):
            self.lot_line(line, False, 2)

    def test_denominators_1_and_0(self):
        for line in ("1/1 0", "0/1 1", "1 0/1", "0/1 1/1", "0/2 1", "1 0/7", "2/2 0", "1 0/0", "1/0 0",
                     "0/0 1", "0/0 0/0", "1 1/0"):
            self.lot_line(line, False, 2)

    def test_no_fractions(self):
        for word in ("", "x", "1.0", "1/", "/1", "/", "1/2/1", "1//2", "01", "00", "1e0", "0x1",
                     "1_0", "1/02", "01/2", "1 /2", "one", "1/2\n", "\t1", "0.5", "50", "1/ 2", "1\\2",
                     "1/x", "a/2", "end", "first", "1,0", ";", "1:2"):
            self.lot_line(f"{word} 1/2", False, 2)
            self.lot_line(f"1/2 {word}", False, 2)
            self.lot_line(f"{word} 1", False, 2)
            self.lot_line(f"1 {word}", False, 2)

    def test_60_and_61_digits(self):
        small, large = 10 ** 59 + 3, 10 ** 60 - 1
        for den in (small, large, 10 ** 59 + 1):
            self.assertEqual(len(str(den)), 60)
            self.lot_line(f"1/{den} {den - 1}/{den}", True, 2)
            self.lot_line(f"{den - 1}/{den} 1/{den}", True, 2)
        for zeros in (59, 60, 4000, 9000):
            # One and a denominator of 61 digits and more, of which the last ones are 01 and 00.
            den, less = f"1{'0' * zeros}1", f"1{'0' * zeros}0"
            self.lot_line(f"1/{den} {less}/{den}", False, 2)
            self.lot_line(f"{less}/{den} 1/{den}", False, 2)
            for wrong in (f"0/{den}", den, f"0{'0' * zeros}", f"1{'0' * zeros}/1", f"{den}/{den}"):
                self.lot_line(f"1 {wrong}", False, 2)
                self.lot_line(f"{wrong} 0", False, 2)

    def test_rows_and_columns(self):
        for right in ("0", "7", "0 7", "0 1 2 3 4 5 6 7", "1 2", "5", "2 3 5 7"):
            self.wrong(["barred", right, "0"], None, EIGHT)
            self.wrong(["barred", "0", right], None, EIGHT)
            numbers = tuple(int(word) for word in right.split(" "))
            self.assertEqual(read_paper(EIGHT, ["barred", right, "1"]).part, (numbers, (1,)))
            self.assertEqual(read_paper(EIGHT, ["barred", "1", right]).part, ((1,), numbers))

    def test_wrong_rows_and_columns(self):
        for wrong in ("", " ", "8", "0 8", "9", "10", "0 1 2 3 4 5 6 7 8", "0 0", "0 1 1", "1 0",
                      "0 2 1", "7 0", "00", "01", "0 01", "-1", "-1 0", "+0", "x", "0 x", "x 0", "0,1",
                      "0  1", "0 1 ", " 0 1", "0\t1", "0\n", "0/1", "1/1", "65535", "65536", "100000",
                      "a", "8 0", "9 1", "1 8 2", "()"):
            self.wrong(["barred", wrong, "0"], 1, EIGHT)
            self.wrong(["barred", "0", wrong], 2, EIGHT)
            self.wrong(["barred", wrong], 1, EIGHT)
            self.wrong(["barred", wrong, wrong, "end"], 1, EIGHT)

    def test_more_numbers_than_the_table_has(self):
        one = Table([[0]])
        for lines, part in (
            (["barred", "0 7", "0"], ((0, 7), (0,))), (["barred", "0", "1"], ((0,), (1,))),
            (["barred", "0 1 2 3 4 5 6 7", "7"], (tuple(range(8)), (7,))),
        ):
            found = read_paper(one, lines)
            self.assertTrue(found == Found("barred", None, part))
            self.assertIs(judge(one, found), False)
            self.assertEqual(paper_lines(found), lines)

    def test_papers_that_do_not_hold_are_read(self):
        self.assertIs(judge(TABLE, read_paper(TABLE, ["talk", "end"])), False)
        self.assertIs(judge(TABLE, read_paper(TABLE, SAYS)), False)
        self.assertIs(judge(TABLE, read_paper(TABLE, ["barred", "0", "0"])), False)

    def test_fields(self):
        found = read_paper(TABLE, SAYS)
        self.assertEqual((found.kind, found.part), ("talk", None))
        self.assertEqual(outline(found.talk), outline(
            say(1, ["1/2 1/2", "0 1"], [surely(2, [0, 0, 0], ends(1)), End()])
        ))
        found = read_paper(TABLE, BARRED)
        self.assertEqual((found.kind, found.talk, found.part), ("barred", None, ((0, 2), (1, 3, 7))))
        self.assertIs(type(found.part), tuple)
        self.assertIs(type(found.part[0]), tuple)

    def test_the_table_stays(self):
        table = Table([[0, 1, 2], [0, 3, 4]])
        read_paper(table, SAYS)
        self.assertTrue(table == TABLE)

    def test_changed_papers(self):
        # Whatever is read from changed lines has just these lines again.
        chance = random.Random(94)
        read = wrong = 0
        for table in some_tables(300, seed=95):
            found = found_by(some_talk(chance, table, 3)) if chance.random() < 0.7 else settle(table)
            lines = paper_lines(found)
            for _ in range(10):
                made = list(lines)
                at = chance.randrange(len(made))
                made[at:at + chance.randint(0, 1)] = chance.choice(
                    ([], [chance.choice(lines)], [made[at]], ["end"], ["first 1"], ["0 1"], ["1"]))
                told = self.at_of(made, table)
                if told is None:
                    read += 1
                    self.assertEqual(paper_lines(read_paper(table, made)), made)
                else:
                    wrong += 1
                    self.assertTrue(0 <= told <= len(made))
                    if told < len(made):
                        # It is the first one: what is behind it counts for nothing.
                        self.assertEqual(self.at_of(made[:told + 1], table), told)
                    self.assertIn(self.at_of(made[:told], table), (None, told))
        self.assertGreater(min(read, wrong), 100)

    def test_many_long_fractions(self):
        den = 10 ** 59 + 3
        row = " ".join([f"1/{den}"] * 98 + [f"{den - 98}/{den}"])
        other = [f"{k}/{10 ** 59 + k + 1}" for k in range(1, 99)]
        self.wrong(["talk", "first 99", row, row, *["end"] * 99], None)
        self.wrong(["talk", "first 99", row, " ".join([*other, "1/2"]), *["end"] * 99], 3)
        lines = ["talk"]
        for _ in range(100):
            lines += ["first 99", row, row, *["end"] * 98]
        self.wrong([*lines, "end"], None)
