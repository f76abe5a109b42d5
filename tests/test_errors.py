"""The errors of the interface."""

import unittest

from splittalk.errors import BadPaper, BadRatio, BadTable, BadTalk, BadText, TalkError, TooLarge

BELOW = (BadText, BadPaper, BadTable, BadTalk, TooLarge, BadRatio)


class Errors(unittest.TestCase):

    def test_talk_error_is_a_value_error(self):
        self.assertTrue(issubclass(TalkError, ValueError))

    def test_each_error_is_a_talk_error(self):
        for error in BELOW:
            self.assertTrue(issubclass(error, TalkError), error)

    def test_none_is_a_base_class_of_another_one(self):
        for one in BELOW:
            for other in BELOW:
                self.assertEqual(issubclass(one, other), one is other, (one, other))

    def test_at(self):
        for error in (BadText, BadPaper):
            with self.assertRaises(TalkError) as caught:
                raise error(7)
            self.assertEqual(caught.exception.at, 7)
            self.assertEqual(error(0).at, 0)

    def test_what(self):
        for error in (BadTable, BadTalk, TooLarge):
            with self.assertRaises(TalkError) as caught:
                raise error("rows")
            self.assertEqual(caught.exception.what, "rows")

    def test_messages_tell_something(self):
        for error in BELOW:
            self.assertIn("3", str(error("3")))
