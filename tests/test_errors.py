"""Point 1, the last two sentences, and the interface's section on errors."""

import ast
import inspect
import unittest

from chipfloor import errors

WITH_INDEX = ("BadSizes", "BadWord", "BadChoice", "BadPacking", "BadChannel", "BadPins", "BadTree", "BadNets", "BadRow",
              "BadMask", "BadDevices", "BadGaps", "BadLibrary", "BadWires", "BadCircuit")
WITHOUT_FIELD = ("BadMove", "BadOrders", "BadBush", "BadNumber", "BadTracks", "HasRing", "BadTopology", "BadSides",
                 "BadGates", "BadBuffer", "BadLags", "BadMaze", "BadPlace", "NotText", "NothingToUndo",
                 "NothingToRedo")
ALL = WITH_INDEX + WITHOUT_FIELD + ("TooMany", "InvalidText")


class Errors(unittest.TestCase):
    def test_base(self):
        self.assertEqual(errors.FloorError.__bases__, (ValueError,))

    def test_all_are_direct_subclasses(self):
        for name in ALL:
            with self.subTest(name):
                self.assertEqual(getattr(errors, name).__bases__, (errors.FloorError,))

    def test_no_others(self):
        found = {name for name, value in vars(errors).items() if inspect.isclass(value)}
        self.assertEqual(found, set(ALL) | {"FloorError"})

    def test_defined_in_the_file_itself(self):
        with open(errors.__file__, encoding="utf-8") as file:
            tree = ast.parse(file.read())
        names = [part.name for part in tree.body if isinstance(part, ast.ClassDef)]
        self.assertEqual(sorted(names), sorted(ALL + ("FloorError",)))

    def test_index(self):
        for name in WITH_INDEX:
            for index in (None, 0, 7):
                with self.subTest(name, index=index):
                    error = getattr(errors, name)(index)
                    self.assertIs(error.index, index)
                    self.assertEqual(error.args, (index,))
                    self.assertEqual(list(vars(error)), ["index"])

    def test_most(self):
        error = errors.TooMany(600)
        self.assertEqual((error.most, error.args, list(vars(error))), (600, (600,), ["most"]))

    def test_line_and_word(self):
        error = errors.InvalidText(1, 4)
        self.assertEqual((error.line, error.word, error.args), (1, 4, (1, 4)))

    def test_field_is_wanted(self):
        for name in WITH_INDEX + ("TooMany", "InvalidText"):
            with self.subTest(name), self.assertRaises(TypeError):
                getattr(errors, name)()

    def test_without_field(self):
        for name in WITHOUT_FIELD:
            with self.subTest(name):
                self.assertEqual(vars(getattr(errors, name)()), {})

    def test_caught_as_floor_error_and_value_error(self):
        for base in (errors.FloorError, ValueError):
            with self.assertRaises(base):
                raise errors.BadWord(None)


if __name__ == "__main__":
    unittest.main()
