import unittest

from chainhouse.works import is_ask, is_name, is_read, is_whole, is_work
from things import NO_NAMES, NO_WHOLES, NO_WORKS, SIXTY, WORKS


class Wholes(unittest.TestCase):
    def test_ints_are(self):
        for thing in (0, 1, -1, SIXTY, -SIXTY, 10 ** 5000):
            self.assertIs(is_whole(thing), True)

    def test_truths_and_other_things_are_not(self):
        for number, thing in enumerate(NO_WHOLES):
            with self.subTest(number=number):
                self.assertIs(is_whole(thing), False)


class Names(unittest.TestCase):
    def test_names_are(self):
        for thing in ("a", "z", "ab", "aa", "put", "abcdefg", "abcdefgh", "zzzzzzzz", "ijklmnop", "qrstuvwx", "yz"):
            with self.subTest(thing):
                self.assertIs(is_name(thing), True)

    def test_each_small_letter_is_one_and_no_other_sign(self):
        for sign in [chr(code) for code in range(0, 400)]:
            with self.subTest(sign=ord(sign)):
                self.assertIs(is_name(sign), "a" <= sign <= "z")
                self.assertIs(is_name("a" + sign + "b"), "a" <= sign <= "z")

    def test_one_to_eight_letters(self):
        for many in range(20):
            with self.subTest(many=many):
                self.assertIs(is_name("q" * many), 1 <= many <= 8)

    def test_other_things_are_not(self):
        for number, thing in enumerate(NO_NAMES):
            with self.subTest(number=number):
                self.assertIs(is_name(thing), False)


class Works(unittest.TestCase):
    def test_works_are(self):
        for thing in WORKS:
            with self.subTest(thing):
                self.assertIs(is_work(thing), True)

    def test_other_things_are_not(self):
        for number, thing in enumerate(NO_WORKS):
            with self.subTest(number=number):
                self.assertIs(is_work(thing), False)

    def test_a_key_that_is_no_name(self):
        for number, thing in enumerate(NO_NAMES):
            with self.subTest(number=number):
                self.assertIs(is_work(("put", thing, 1)), False)
                self.assertIs(is_work(("add", thing, 1)), False)
                self.assertIs(is_work(("drop", thing)), False)

    def test_a_number_that_is_none(self):
        for number, thing in enumerate(NO_WHOLES):
            with self.subTest(number=number):
                self.assertIs(is_work(("put", "a", thing)), False)
                self.assertIs(is_work(("add", "a", thing)), False)

    def test_what_is_looked_at_is_not_changed(self):
        thing = ["put", ["a"], [1, [2]]]
        self.assertIs(is_work(thing), False)
        self.assertIs(is_work(("put", thing, thing)), False)
        self.assertEqual(thing, ["put", ["a"], [1, [2]]])


class Asks(unittest.TestCase):
    def test_each_work_may_be_asked(self):
        for work in WORKS:
            with self.subTest(work):
                self.assertIs(is_ask("a", 1, work), True)

    def test_what_is_no_work_may_not(self):
        for number, thing in enumerate(NO_WORKS):
            with self.subTest(number=number):
                self.assertIs(is_ask("a", 1, thing), False)

    def test_numbers_are_from_one_on_without_end(self):
        for number in (1, 2, SIXTY, SIXTY + 1, 10 ** 100, 10 ** 5000):
            self.assertIs(is_ask("a", number, ("drop", "a")), True)
        for number in (0, -1, -2, -SIXTY, -10 ** 5000):
            self.assertIs(is_ask("a", number, ("drop", "a")), False)

    def test_numbers_that_are_none(self):
        for number, thing in enumerate(NO_WHOLES):
            with self.subTest(number=number):
                self.assertIs(is_ask("a", thing, ("drop", "a")), False)

    def test_askers_are_names(self):
        for asker in ("a", "z", "abcdefgh"):
            self.assertIs(is_ask(asker, 1, ("drop", "a")), True)
        for number, thing in enumerate(NO_NAMES):
            with self.subTest(number=number):
                self.assertIs(is_ask(thing, 1, ("drop", "a")), False)

    def test_all_parts_wrong(self):
        self.assertIs(is_ask(None, None, None), False)
        self.assertIs(is_ask([], True, []), False)


class Reads(unittest.TestCase):
    def test_reads(self):
        for number in (1, 2, SIXTY, 10 ** 5000):
            self.assertIs(is_read("a", number, "abcdefgh"), True)

    def test_what_is_none(self):
        for thing in NO_NAMES:
            self.assertIs(is_read(thing, 1, "k"), False)
            self.assertIs(is_read("a", 1, thing), False)
        for thing in NO_WHOLES + (0, -1, -10 ** 5000):
            self.assertIs(is_read("a", thing, "k"), False)
