import unittest

from knewby.errors import KnewError, NoBook, NoDeed, NoRow, NoSaying, NoStory, Saw, TooMuch

REFUSALS = [NoBook, NoSaying, NoStory, Saw, TooMuch, NoRow, NoDeed]


def made(refusal):
    if refusal == NoBook:
        return NoBook("talks")
    if refusal == NoRow:
        return NoRow(3)
    return refusal()


class Errors(unittest.TestCase):
    def test_any_refusal_stands_right_under_value_error(self):
        self.assertEqual((ValueError,), KnewError.__bases__)

    def test_each_refusal_stands_under_knew_error(self):
        for refusal in REFUSALS:
            with self.subTest(refusal=refusal):
                self.assertEqual((KnewError,), refusal.__bases__)

    def test_no_refusal_stands_under_another_one(self):
        for one in REFUSALS:
            for other in REFUSALS:
                with self.subTest(one=one, other=other):
                    self.assertEqual(one == other, issubclass(one, other))

    def test_each_is_raised_and_taken_as_a_refusal(self):
        for refusal in REFUSALS:
            for taken in (refusal, KnewError, ValueError):
                with self.subTest(refusal=refusal, taken=taken):
                    with self.assertRaises(taken):
                        raise made(refusal)

    def test_no_book_has_its_part(self):
        for part in ("persons", "sights", "talks", "sayings"):
            self.assertEqual(part, NoBook(part).part)
            self.assertEqual(part, NoBook(part=part).part)

    def test_no_row_has_its_row(self):
        for row in (0, 1, 300):
            self.assertEqual(row, NoRow(row).row)
            self.assertEqual(row, NoRow(row=row).row)

    def test_fields_are_each_objects_own(self):
        first = NoBook("persons")
        second = NoBook("talks")
        self.assertEqual(("persons", "talks"), (first.part, second.part))

    def test_part_and_row_are_wanted(self):
        for refusal in (NoBook, NoRow):
            with self.assertRaises(TypeError):
                refusal()


if __name__ == "__main__":
    unittest.main()
