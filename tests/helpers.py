"""What all test cases need."""

import unittest


class FloorCase(unittest.TestCase):
    """A test case that asks for errors by their class and their field."""

    def check_error(self, kind, field, function, *arguments):
        """The call raises exactly this error; field is (name, value), or None."""
        with self.assertRaises(kind, msg=f"{function.__name__}{arguments!r}") as caught:
            function(*arguments)
        error = caught.exception
        self.assertIs(error.__class__, kind, (function.__name__, arguments))
        if field is not None:
            name, value = field
            found = getattr(error, name)
            self.assertEqual(found, value, (function.__name__, arguments))
            self.assertIs(found.__class__, value.__class__, (function.__name__, arguments))
            self.assertEqual(error.args, (value,), (function.__name__, arguments))
