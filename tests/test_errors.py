import unittest

from chainhouse import errors

NAMES = (
    "NoBench", "NotYet", "NoText", "NoLetter", "NoDeed", "NotChair", "Old", "NoTown", "NoHouse", "Standing", "Down",
    "NoPaper", "NoJournal",
)


def made(name):
    kind = getattr(errors, name)
    if name == "NotChair":
        return kind("a")
    if name == "NoPaper":
        return kind(3)
    return kind("some words")


class Errors(unittest.TestCase):
    def test_the_first_one_stands_straight_under_value_error(self):
        self.assertEqual(errors.ChainError.__bases__, (ValueError,))

    def test_each_stands_straight_under_the_first_one(self):
        for name in NAMES:
            with self.subTest(name):
                self.assertEqual(getattr(errors, name).__bases__, (errors.ChainError,))

    def test_none_stands_under_another_one(self):
        for name in NAMES:
            for other in NAMES:
                with self.subTest(name=name, other=other):
                    self.assertEqual(issubclass(getattr(errors, name), getattr(errors, other)), name == other)

    def test_each_has_its_own_name(self):
        for name in ("ChainError",) + NAMES:
            with self.subTest(name):
                self.assertEqual(getattr(errors, name).__name__, name)

    def test_each_is_caught_as_any_refusal(self):
        for name in NAMES:
            with self.subTest(name):
                with self.assertRaises(errors.ChainError) as caught:
                    raise made(name)
                self.assertIs(type(caught.exception), getattr(errors, name))

    def test_not_chair_tells_the_chair(self):
        for chair in ("a", "abcdefgh", None):
            with self.subTest(chair):
                self.assertEqual(errors.NotChair(chair).chair, chair)

    def test_no_paper_tells_the_number(self):
        for number in (0, 1, 7, 10 ** 60):
            with self.subTest(number):
                self.assertEqual(errors.NoPaper(number).number, number)

    def test_fields_are_each_objects_own(self):
        first, second = errors.NotChair("a"), errors.NotChair("b")
        self.assertEqual((first.chair, second.chair), ("a", "b"))
        first, second = errors.NoPaper(0), errors.NoPaper(1)
        self.assertEqual((first.number, second.number), (0, 1))
