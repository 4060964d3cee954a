"""Point 2 and the interface's first row: the refusals."""

import unittest

from stickytiles import errors

BARE = ("NoPlace", "Taken", "NoKind", "NotHeld", "NothingBack", "NotSure", "TooMany", "NotFramed", "NoLine")
NUMBERS = (0, 1, 143, 10 ** 30, -1, -(10 ** 30))


def all_made():
    made = [getattr(errors, name)() for name in BARE]
    return made + [errors.NoGrowing(3), errors.NoText(4)]


class ErrorsTest(unittest.TestCase):
    def test_tile_error_stands_under_value_error(self):
        self.assertEqual(errors.TileError.__bases__, (ValueError,))

    def test_each_stands_straight_under_tile_error(self):
        for made in all_made():
            self.assertEqual(type(made).__bases__, (errors.TileError,))
            self.assertIsInstance(made, errors.TileError)
            self.assertIsInstance(made, ValueError)

    def test_each_is_called_as_the_interface_says(self):
        self.assertEqual([type(made).__name__ for made in all_made()], list(BARE) + ["NoGrowing", "NoText"])

    def test_none_is_another(self):
        made = all_made()
        for one in made:
            alike = [other for other in made if isinstance(one, type(other))]
            self.assertEqual(alike, [one])

    def test_each_can_be_raised_and_taken(self):
        for made in all_made():
            with self.assertRaises(type(made)):
                raise made

    def test_no_growing_keeps_its_number(self):
        for number in NUMBERS:
            self.assertEqual(errors.NoGrowing(number).number, number)

    def test_no_text_keeps_its_line(self):
        for line in NUMBERS:
            self.assertEqual(errors.NoText(line).line, line)

    def test_objects_do_not_share_what_they_keep(self):
        one = errors.NoGrowing(1)
        other = errors.NoGrowing(2)
        self.assertEqual((one.number, other.number), (1, 2))

    def test_they_ask_for_what_the_interface_says(self):
        for refusal in (errors.NoGrowing, errors.NoText):
            with self.assertRaises(TypeError):
                refusal()


if __name__ == "__main__":
    unittest.main()
