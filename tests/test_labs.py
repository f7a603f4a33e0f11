"""Points 78 and 79: labs and their lines."""

import unittest
from random import Random

from chipfloor.errors import InvalidText, NothingToRedo, NothingToUndo, NotText
from chipfloor.labs import Lab, replayed
from tests import judge
from tests import judge_labs as plain
from tests.helpers import FloorCase

NO_TEXT = tuple(value for value in judge.ODD_VALUES if not isinstance(value, str)) + (b"nets", ["nets"], ("nets",), {"a": 1})
FULL = "\n".join(["put metal 0 0 1 1"] * 24)


class Invalid(FloorCase):
    """A test case that asks for InvalidText with both fields."""

    def check_invalid(self, word, function, *arguments):
        with self.assertRaises(InvalidText, msg=repr(arguments)) as caught:
            function(*arguments)
        error = caught.exception
        self.assertIs(error.__class__, InvalidText)
        self.assertEqual((error.line, error.word, error.args), (1, word, (1, word)), arguments)

    def check_line(self, word, line, before=""):
        """The line is wrong at this word behind the lines of a text, and changes nothing."""
        lab = replayed(before)
        mask, steps = lab.mask, lab.steps
        self.check_invalid(word, lab.run, line)
        self.assertEqual((lab.mask, lab.steps), (mask, steps))
        self.check_invalid(word, replayed, (before + "\n" + line) if before else line + "\nnets")


class Labs(Invalid):
    """Point 78."""

    def test_begin(self):
        lab = Lab()
        self.assertEqual((lab.mask, lab.steps), ((), ()))
        self.assertIsInstance(lab.mask, tuple)
        self.assertIsInstance(lab.steps, tuple)
        self.check_error(NothingToUndo, None, lab.undo)
        self.check_error(NothingToRedo, None, lab.redo)
        self.assertEqual((lab.mask, lab.steps), ((), ()))

    def test_methods_and_properties_of_the_class_itself(self):
        for name in ("run", "undo", "redo", "mask", "steps"):
            self.assertIn(name, vars(Lab))
        for name in ("mask", "steps"):
            self.assertIsInstance(vars(Lab)[name], property)
            with self.assertRaises(AttributeError):
                setattr(Lab(), name, ())

    def test_labs_are_apart(self):
        one, other = Lab(), Lab()
        one.run("put cut 0 0 1 1")
        self.assertEqual((other.mask, other.steps), ((), ()))

    def test_steps(self):
        lab = Lab()
        self.assertIsNone(lab.run("put metal 0 1 2 3"))
        self.assertEqual(lab.mask, (("metal", 0, 1, 2, 3),))
        self.assertIsNone(lab.run("  put   poly 4 5 60 60 "))
        self.assertEqual(lab.mask, (("metal", 0, 1, 2, 3), ("poly", 4, 5, 60, 60)))
        self.assertIsNone(lab.run("shift 0 10 20"))
        self.assertEqual(lab.mask, (("metal", 10, 21, 12, 23), ("poly", 4, 5, 60, 60)))
        self.assertIsNone(lab.run("drop 0"))
        self.assertEqual(lab.mask, (("poly", 4, 5, 60, 60),))
        self.assertEqual(lab.steps, ("put metal 0 1 2 3", "  put   poly 4 5 60 60 ", "shift 0 10 20", "drop 0"))

    def test_questions_are_no_steps(self):
        lab = replayed("put metal 0 0 2 3\nput metal 5 5 6 6\nput poly 0 0 1 1")
        before = (lab.mask, lab.steps)
        self.assertEqual([lab.run(line) for line in ("nets", " area  metal ", "area poly", "area cut")],
                         ["3", "7", "1", "0"])
        self.assertEqual((lab.mask, lab.steps), before)
        self.assertEqual(Lab().run("nets"), "0")
        self.assertEqual(Lab().run("area cut"), "0")

    def test_undo_and_redo(self):
        lab = Lab()
        masks = [()]
        lines = ("put cut 0 0 1 1", "put cut 5 5 6 6", "shift 1 1 0", "drop 0")
        for line in lines:
            lab.run(line)
            masks.append(lab.mask)
        for many in (3, 2, 1, 0):
            self.assertIsNone(lab.undo())
            self.assertEqual((lab.mask, lab.steps), (masks[many], lines[:many]))
        self.check_error(NothingToUndo, None, lab.undo)
        for many in (1, 2, 3, 4):
            self.assertIsNone(lab.redo())
            self.assertEqual((lab.mask, lab.steps), (masks[many], lines[:many]))
        self.check_error(NothingToRedo, None, lab.redo)
        self.assertEqual((lab.mask, lab.steps), (masks[4], lines))

    def test_new_step_forgets(self):
        lab = replayed("put cut 0 0 1 1\nput cut 5 5 6 6")
        lab.undo()
        lab.run("put metal 0 0 1 1")
        self.check_error(NothingToRedo, None, lab.redo)
        self.assertEqual(lab.steps, ("put cut 0 0 1 1", "put metal 0 0 1 1"))
        lab.undo()
        lab.redo()
        self.assertEqual(lab.mask, (("cut", 0, 0, 1, 1), ("metal", 0, 0, 1, 1)))

    def test_questions_and_wrong_lines_do_not_forget(self):
        lab = replayed("put cut 0 0 1 1\nput cut 5 5 6 6")
        lab.undo()
        lab.undo()
        self.assertEqual(lab.run("nets"), "0")
        self.check_invalid(2, lab.run, "drop 0")
        self.check_error(NotText, None, lab.run, None)
        lab.redo()
        self.check_error(NotText, None, lab.run, 5)
        lab.redo()
        self.assertEqual(lab.mask, (("cut", 0, 0, 1, 1), ("cut", 5, 5, 6, 6)))

    def test_no_text(self):
        for value in NO_TEXT:
            lab = replayed("put cut 0 0 1 1")
            self.check_error(NotText, None, lab.run, value)
            self.assertEqual(len(lab.steps), 1)
            self.check_error(NotText, None, replayed, value)

    def test_replayed(self):
        self.assertIsInstance(replayed(""), Lab)
        self.assertEqual((replayed("").mask, replayed("").steps), ((), ()))
        lab = replayed("put cut 0 0 1 1\nnets\nput cut 5 5 6 6\narea cut\ndrop 0")
        self.assertEqual(lab.mask, (("cut", 5, 5, 6, 6),))
        self.assertEqual(lab.steps, ("put cut 0 0 1 1", "put cut 5 5 6 6", "drop 0"))
        lab.undo()
        self.assertEqual(len(lab.mask), 2)

    def test_empty_lines_of_a_text(self):
        for text in ("\n", " ", "nets\n", "\nnets", "nets\n\nnets", "put cut 0 0 1 1\n"):
            self.check_invalid(1, replayed, text)
        self.check_invalid(1, replayed, "nets\r\nnets")
        self.check_invalid(1, replayed, "nets\x0bnets")

    def test_random(self):
        source = Random(181)
        seen = {}
        for _ in range(80):
            lab, masks, lines, back = Lab(), [()], [], []
            for _ in range(60):
                kind = source.choice(("run", "run", "run", "undo", "redo"))
                if kind == "undo" and lines:
                    lab.undo()
                    back.append((lines.pop(), masks.pop()))
                elif kind == "redo" and back:
                    lab.redo()
                    line, mask = back.pop()
                    lines.append(line)
                    masks.append(mask)
                elif kind == "undo":
                    self.check_error(NothingToUndo, None, lab.undo)
                elif kind == "redo":
                    self.check_error(NothingToRedo, None, lab.redo)
                else:
                    back = self.check_run(source, lab, masks, lines, back, seen)
                self.assertEqual((lab.mask, lab.steps), (masks[-1], tuple(lines)))
            self.assertEqual((replayed("\n".join(lines)).mask, replayed("\n".join(lines)).steps), (lab.mask, lab.steps))
        self.assertGreaterEqual(set(seen), {1, 2, 3, 4, 5, 6, 7, "put", "drop", "shift", "nets", "area"})

    def check_run(self, source, lab, masks, lines, back, seen):
        """Run a random line; what is taken back behind it."""
        line = plain.random_line(source, masks[-1])
        word = plain.wrong_word(line, masks[-1])
        if word is not None:
            seen[word] = True
            self.check_invalid(word, lab.run, line)
            return back
        seen[line.split()[0]] = True
        mask, answer = plain.after(line, masks[-1])
        self.assertEqual(lab.run(line), answer, line)
        if answer is not None:
            return back
        masks.append(mask)
        lines.append(line)
        return []


class Lines(Invalid):
    """Point 79."""

    def test_no_words(self):
        for line in ("", " ", "     "):
            self.check_invalid(1, Lab().run, line)
        self.check_invalid(1, replayed, "     ")

    def test_first_words(self):
        for word in ("x", "Put", "PUT", "puts", "pu", "undo", "redo", "mask", "0", "metal", "net", "\tnets", "nets\n",
                     "nets\u00a0", "-"):
            self.check_invalid(1, Lab().run, word)
            self.check_line(1, word + " 0 0", "nets")

    def test_spaces(self):
        for line in ("put cut 0 0 1 1", "  put cut 0 0 1 1", "put cut 0 0 1 1  ", "put   cut  0    0 1 1"):
            self.assertEqual(replayed(line).mask, (("cut", 0, 0, 1, 1),))
            self.assertEqual(replayed(line).steps, (line,))
        self.check_line(1, "put\tcut 0 0 1 1")
        self.check_line(2, "put cut\t0 0 1 1")
        self.check_invalid(2, Lab().run, "put cut\n0 0 1 1")

    def test_lacking_words(self):
        words = "put metal 0 0 1 1".split()
        for many in range(1, 6):
            self.check_line(many + 1, " ".join(words[:many]))
            self.check_line(many + 1, "  ".join([""] + words[:many] + [""]))
        before = "put metal 0 0 1 1"
        for line, word in (("drop", 2), ("shift", 2), ("shift 0", 3), ("shift 0 0", 4), ("area", 2)):
            self.check_line(word, line, before)
        for line in ("drop", "shift", "area"):
            self.check_line(2, line)

    def test_too_many_words(self):
        before = "put metal 0 0 1 1"
        for line, word in ((before + " 1", 7), (before + " x y", 7), ("drop 0 0", 3), ("shift 0 0 0 0", 5), ("nets nets", 2),
                           ("area metal 0", 3), ("nets 0", 2)):
            self.check_line(word, line, before)

    def test_layers(self):
        for layer in ("metal", "poly", "cut"):
            self.assertEqual(replayed(f"put {layer} 1 2 3 4").mask, ((layer, 1, 2, 3, 4),))
            self.assertEqual(replayed(f"put {layer} 1 2 3 5").run(f"area {layer}"), "6")
        for word in ("gold", "Metal", "0", "metals", "met", "put"):
            self.check_line(2, f"put {word} 0 0 1 1")
            self.check_line(2, f"area {word}")

    def test_numbers(self):
        for word in ("00", "01", "09", "000", "100", "1000", "-1", "+1", "x", "1x", "1.", "1_0", "0x1", "\u0661", "\u00b2",
                     "-0", "1,", "One"):
            for at in range(2, 6):
                words = "put metal 0 0 60 60".split()
                words[at] = word
                self.check_line(at + 1, " ".join(words))
            for line, at in ((f"drop {word}", 2), (f"shift {word} 0 0", 2), (f"shift 0 {word} 0", 3),
                             (f"shift 0 0 {word}", 4)):
                self.check_line(at, line, "put metal 0 0 1 1\nput metal 0 0 1 1")

    def test_places(self):
        self.assertEqual(replayed("put cut 59 59 60 60").mask, (("cut", 59, 59, 60, 60),))
        self.assertEqual(replayed("put cut 0 10 60 11").mask, (("cut", 0, 10, 60, 11),))
        for line, word in (("put cut 60 0 60 1", 3), ("put cut 61 0 62 1", 3), ("put cut 0 60 1 61", 4), ("put cut 0 99 1 1", 4),
                           ("put cut 5 5 5 6", 5), ("put cut 5 5 4 6", 5), ("put cut 5 5 0 6", 5), ("put cut 5 5 61 6", 5),
                           ("put cut 5 5 6 5", 6), ("put cut 5 5 6 4", 6), ("put cut 5 5 6 61", 6), ("put cut 5 5 6 99", 6),
                           ("put cut 5 9 6 6", 6), ("put cut 9 5 6 6", 5), ("put cut 5 9 8 10", None)):
            if word is None:
                self.assertEqual(len(replayed(line).mask), 1)
            else:
                self.check_line(word, line)

    def test_first_wrong_word(self):
        self.check_line(2, "put gold 60 60 0 0 0")
        self.check_line(3, "put metal 60 60 0 0 0")
        self.check_line(5, "put metal 5 5 5")
        self.check_line(2, "drop 1 x", "put metal 0 0 1 1")
        self.check_line(2, "drop 0 x")

    def test_indexes(self):
        before = "put cut 0 0 1 1\nput cut 2 2 3 3\nput cut 4 4 5 5"
        self.assertEqual(replayed(before + "\ndrop 1").mask, (("cut", 0, 0, 1, 1), ("cut", 4, 4, 5, 5)))
        self.assertEqual(replayed(before + "\ndrop 2\ndrop 1\ndrop 0").mask, ())
        for line in ("drop 3", "drop 99", "shift 3 0 0"):
            self.check_line(2, line, before)
        for line in ("drop 0", "shift 0 0 0"):
            self.check_line(2, line)
        self.assertEqual(len(replayed(FULL + "\ndrop 23").mask), 23)
        self.check_line(2, "drop 24", FULL)

    def test_shifts(self):
        before = "put cut 10 20 30 45"
        self.assertEqual(replayed(before + "\nshift 0 30 15").mask, (("cut", 40, 35, 60, 60),))
        self.assertEqual(replayed(before + "\nshift 0 0 0").mask, (("cut", 10, 20, 30, 45),))
        self.assertEqual(replayed(before + "\nshift 0 0 0").steps, (before, "shift 0 0 0"))
        self.assertEqual(replayed(before + "\nshift 0 2 1\nshift 0 2 1").mask, (("cut", 14, 22, 34, 47),))
        self.check_line(3, "shift 0 31 0", before)
        self.check_line(3, "shift 0 31 99", before)
        self.check_line(4, "shift 0 30 16", before)
        self.check_line(3, "shift 0 1 0", "put cut 0 0 60 1")
        self.check_line(4, "shift 0 0 1", "put cut 0 0 1 60")
        self.assertEqual(replayed("put metal 0 0 1 1\nput cut 9 9 10 10\nshift 1 1 2").mask,
                         (("metal", 0, 0, 1, 1), ("cut", 10, 11, 11, 12)))

    def test_full_mask(self):
        self.assertEqual(len(replayed(FULL).mask), 24)
        for line in ("put metal 0 0 1 1", "put", "put gold", "put metal 0 0 1 1 1"):
            self.check_line(1, line, FULL)
        lab = replayed(FULL)
        self.assertEqual((lab.run("nets"), lab.run("area metal")), ("1", "1"))
        lab.run("drop 0")
        lab.run("put cut 0 0 60 60")
        self.assertEqual((len(lab.mask), lab.run("nets"), lab.run("area cut")), (24, "1", "3600"))


if __name__ == "__main__":
    unittest.main()
