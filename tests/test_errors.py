"""[3]: the errors."""

import inspect
import unittest

from wordfractions import errors
from wordfractions.errors import WordsError

PLAIN = ("SequentError", "SizeError", "FitError", "WatchError", "DeedError", "JournalError")
FIELDS = {
    "KindError": "place",
    "DerivationError": "row",
    "GrammarError": "row",
    "DictionaryError": "row",
    "WordError": "word",
}


class ErrorsTest(unittest.TestCase):

    def test_base(self):
        self.assertEqual(WordsError.__bases__, (ValueError,))

    def test_each_is_a_direct_subclass(self):
        for name in PLAIN + tuple(FIELDS):
            self.assertEqual(getattr(errors, name).__bases__, (WordsError,), name)

    def test_there_are_no_others(self):
        found = {name for name, thing in vars(errors).items() if inspect.isclass(thing)}
        self.assertEqual(found, set(PLAIN) | set(FIELDS) | {"WordsError"})
        for name in found:
            self.assertEqual(getattr(errors, name).__module__, "wordfractions.errors")

    def test_fields(self):
        for name, field in FIELDS.items():
            for value in (0, 7, "cat", ""):
                error = getattr(errors, name)(value)
                self.assertEqual(getattr(error, field), value)
                self.assertEqual(vars(error), {field: value})

    def test_fields_are_asked_for(self):
        for name in FIELDS:
            with self.assertRaises(TypeError):
                getattr(errors, name)()

    def test_messages(self):
        for name in PLAIN:
            self.assertEqual(str(getattr(errors, name)("told")), "told")
