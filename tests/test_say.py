"""Ends and messages: points 1 and 8 and the classes of splittalk/talk.py."""

import copy
import unittest

from examples import by, ends, lots, ratio, say
from splittalk.errors import BadTalk
from splittalk.ratio import Ratio
from splittalk.table import Table
from splittalk.talk import End, Say


class Making(unittest.TestCase):

    def test_fields(self):
        parts = [End(), by(2, [0, 1])]
        message = Say(1, lots("1/2 1/2", "0 1", "1 0"), parts)
        self.assertEqual(message.person, 1)
        self.assertEqual(message.lots, (
            (ratio("1/2"), ratio("1/2")), (ratio("0"), ratio("1")), (ratio("1"), ratio("0")),
        ))
        self.assertEqual(message.parts, tuple(parts))

    def test_lists_and_tuples(self):
        made = lots("1/3 2/3", "1 0")
        parts = ends(2)
        for given, behind in (
            (made, parts), (tuple(made), tuple(parts)),
            ([tuple(row) for row in made], parts), (tuple(tuple(row) for row in made), parts),
            ([made[0], tuple(made[1])], tuple(parts)),
        ):
            message = Say(2, given, behind)
            self.assertIs(type(message.lots), tuple)
            self.assertEqual([type(row) for row in message.lots], [tuple, tuple])
            self.assertIs(type(message.parts), tuple)
            self.assertTrue(message == Say(2, made, parts))

    def test_named_arguments(self):
        self.assertTrue(Say(person=2, lots=lots("1"), parts=[End()]) == say(2, ["1"], [End()]))

    def test_one_message_and_many(self):
        self.assertEqual(len(say(1, ["1"], ends(1)).parts), 1)
        for many in (2, 8, 99):
            message = Say(1, [[Ratio(1, many)] * many] * 8, ends(many))
            self.assertEqual(len(message.parts), many)
            self.assertEqual([len(row) for row in message.lots], [many] * 8)

    def test_lots_of_many_kinds(self):
        for text in ("1/2 1/3 1/6", "0 0 1", "1 0 0", "1/7 2/7 4/7", "1/1000000007 1000000006/1000000007 0"):
            self.assertEqual(len(say(1, [text], ends(3)).lots[0]), 3)


class Faults(unittest.TestCase):

    def fault(self, person, texts, parts):
        with self.assertRaises(BadTalk) as caught:
            say(person, texts, parts)
        return caught.exception.what

    def test_persons(self):
        for person in (1, 2):
            self.assertEqual(say(person, ["1"], [End()]).person, person)
        for person in (0, 3, -1, 12, 2 ** 70):
            self.assertEqual(self.fault(person, ["1"], [End()]), "person")

    def test_no_nodes(self):
        self.assertEqual(self.fault(1, [""], []), "parts")
        self.assertEqual(self.fault(2, ["", ""], ()), "parts")

    def test_no_lists_of_lots(self):
        self.assertEqual(self.fault(1, [], ends(1)), "lots")
        self.assertEqual(self.fault(2, [], ends(3)), "lots")
        with self.assertRaises(BadTalk):
            Say(1, (), (End(),))

    def test_too_few_lots(self):
        for texts in (
            ["1"], [""], ["1/2 1/2", "1"], ["1/2 1/2", "1 0", "1"], ["0 1", "", "1 0"],
        ):
            self.assertEqual(self.fault(1, texts, ends(2)), "lots")

    def test_too_many_lots(self):
        for texts in (
            ["1/2 1/2 0"], ["1/2 1/2", "1/3 1/3 1/3"], ["1/2 1/2", "1 0", "1 0 0"],
            ["0 1", "1 0 0", "1 0"],
        ):
            self.assertEqual(self.fault(2, texts, ends(2)), "lots")
        self.assertEqual(self.fault(2, ["1", "1 0"], ends(1)), "lots")

    def test_negative_lots(self):
        for texts in (
            ["-1/2 3/2"], ["3/2 -1/2"], ["1 0", "2 -1"], ["1/2 1/2", "0 1", "-1/1000 1001/1000"],
        ):
            self.assertEqual(self.fault(1, texts, ends(2)), "lots")
        self.assertEqual(self.fault(1, ["1 1 -1"], ends(3)), "lots")

    def test_sums(self):
        for texts in (
            ["1/2 1/3"], ["1/2 2/3"], ["0 0"], ["1 1"], ["1 0", "0 0"], ["0 1", "1/2 1/2", "1 1/9"],
            ["1/3 1000000/1500001"], ["-1/2 1/2"],
        ):
            self.assertEqual(self.fault(2, texts, ends(2)), "lots")
        self.assertEqual(self.fault(1, ["1/2"], ends(1)), "lots")
        self.assertEqual(self.fault(1, ["2"], ends(1)), "lots")

    def test_person_ahead_of_parts(self):
        self.assertEqual(self.fault(0, ["", ""], []), "person")
        self.assertEqual(self.fault(3, [""], []), "person")

    def test_person_ahead_of_lots(self):
        for texts in ([], ["1"], ["1/2 1/2", "1"], ["1 0 0"], ["3/2 -1/2"], ["1 1"]):
            self.assertEqual(self.fault(0, texts, ends(2)), "person")
            self.assertEqual(self.fault(3, texts, ends(2)), "person")

    def test_parts_ahead_of_lots(self):
        for texts in ([], [""], ["1"], ["", "1/2 1/2"], ["3/2 -1/2"], ["1 1"]):
            self.assertEqual(self.fault(1, texts, []), "parts")

    def test_all_reasons(self):
        for texts in ([], ["1"], ["-1 2"], ["1 1"]):
            self.assertEqual(self.fault(0, texts, []), "person")


class Copies(unittest.TestCase):

    def test_arguments_are_not_modified(self):
        for person, texts, many in (
            (1, ["1/2 1/2", "0 1"], 2), (0, ["1 0"], 2), (1, ["1"], 0), (2, ["1 1"], 2), (2, [], 1),
        ):
            given, parts = lots(*texts), ends(many)
            rows, kept, nodes = list(given), [list(row) for row in given], list(parts)
            before = copy.deepcopy([[(lot.num, lot.den) for lot in row] for row in given])
            try:
                Say(person, given, parts)
            except BadTalk:
                pass
            self.assertEqual([id(row) for row in given], [id(row) for row in rows])
            self.assertEqual([list(map(id, row)) for row in given], [list(map(id, row)) for row in kept])
            self.assertEqual([[(lot.num, lot.den) for lot in row] for row in given], before)
            self.assertEqual(list(map(id, parts)), list(map(id, nodes)))

    def test_changes_afterwards(self):
        given, parts = lots("1/2 1/2", "0 1"), ends(2)
        message = Say(1, given, parts)
        given[0][0] = ratio("7")
        given[1].append(ratio("1"))
        given.append([ratio("5")])
        parts[0] = message
        parts.append(End())
        self.assertTrue(message == say(1, ["1/2 1/2", "0 1"], ends(2)))
        self.assertEqual([len(row) for row in message.lots], [2, 2])
        self.assertEqual(len(message.parts), 2)

    def test_a_list_that_is_passed_for_all_values(self):
        row = lots("1 0")[0]
        message = Say(1, [row, row], ends(2))
        row[0] = ratio("0")
        self.assertTrue(message == say(1, ["1 0", "1 0"], ends(2)))


class Equality(unittest.TestCase):

    def same(self, one, other):
        self.assertIs(one == other, True)
        self.assertIs(other == one, True)
        self.assertIs(one != other, False)

    def unlike(self, one, other):
        self.assertIs(one == other, False)
        self.assertIs(other == one, False)
        self.assertIs(one != other, True)

    def test_ends(self):
        self.same(End(), End())

    def test_end_and_message(self):
        self.unlike(End(), say(1, ["1"], [End()]))

    def test_messages(self):
        one = say(1, ["1/2 1/2", "0 1"], [End(), by(2, [0, 1])])
        self.same(one, one)
        self.same(one, say(1, ["2/4 3/6", "0 5/5"], (End(), by(2, (0, 1)))))

    def test_other_person(self):
        self.unlike(say(1, ["1/2 1/2"], ends(2)), say(2, ["1/2 1/2"], ends(2)))

    def test_other_lots(self):
        one = say(1, ["1/2 1/2", "0 1"], ends(2))
        for texts in (
            ["1/2 1/2", "1 0"], ["0 1", "1/2 1/2"], ["1/2 1/2"], ["1/2 1/2", "0 1", "0 1"],
            ["1/3 2/3", "0 1"],
        ):
            self.unlike(one, say(1, texts, ends(2)))

    def test_other_parts(self):
        one = say(1, ["1/2 1/2"], [End(), by(2, [0, 1])])
        for parts in (
            ends(2), [by(2, [0, 1]), End()], [End(), by(2, [1, 0])], [End(), by(1, [0, 1])],
            [End(), by(2, [0, 1, 1])], [by(2, [0, 1])] * 2,
        ):
            self.unlike(one, say(1, ["1/2 1/2"], parts))

    def test_other_number_of_parts(self):
        self.unlike(say(1, ["1"], ends(1)), say(1, ["1 0"], ends(2)))

    def test_other_part_far_below(self):
        for many in (1, 2, 50, 200):
            one, like, other = by(1, [0, 1]), by(1, [0, 1]), by(1, [1, 0])
            for _ in range(many):
                one, like, other = [say(2, ["1/2 1/2"], [End(), k]) for k in (one, like, other)]
            self.same(one, like)
            self.unlike(one, other)

    def test_other_things(self):
        for thing in (None, 1, "end", (), [], Table([[1]]), ratio("1")):
            self.unlike(End(), thing)
            self.unlike(say(1, ["1"], [End()]), thing)

    def test_equality_changes_nothing(self):
        one, other = say(1, ["1/2 1/2"], ends(2)), say(1, ["1/2 1/2"], ends(2))
        parts, rows = one.parts, one.lots
        self.same(one, other)
        self.assertIs(one.parts, parts)
        self.assertIs(one.lots, rows)
