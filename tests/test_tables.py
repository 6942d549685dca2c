import itertools
import unittest

from chainhouse.tables import Table
from things import SIXTY

HELD = (("a", 1), ("aa", 0), ("ab", -5), ("b", SIXTY))
ASKED = (("ann", 3, None), ("bob", SIXTY, -7), ("bobby", 1, 0))


def model_told(asks):
    """What a table tells that did these asks: done anew from the whole list, by the words of points 4 to 6."""
    held, lasts, answers = {}, {}, []
    for asker, number, work in asks:
        number_before, kept = lasts.get(asker, (0, None))
        if number <= number_before:
            answers.append(("again", kept) if number == number_before else ("old", None))
            continue
        there = held.get(work[1])
        now = {"put": work[-1], "add": (there or 0) + work[-1] if work[0] == "add" else 0, "drop": None}[work[0]]
        held[work[1]] = now
        lasts[asker] = (number, now if work[0] == "add" else there)
        answers.append(("done", lasts[asker][1]))
    pairs = tuple(sorted((key, number) for key, number in held.items() if number is not None))
    return answers, (pairs, tuple(sorted((asker,) + last for asker, last in lasts.items())))


class Does(unittest.TestCase):
    def setUp(self):
        self.table = Table((), ())
        self.number = 0

    def done(self, work):
        self.number += 1
        told = self.table.does("ann", self.number, work)
        self.assertIsInstance(told, tuple)
        self.assertEqual(told[0], "done")
        self.assertEqual(len(told), 2)
        return told[1]

    def test_put_answers_what_was_held(self):
        self.assertIsNone(self.done(("put", "a", 5)))
        self.assertEqual(self.table.holds("a"), 5)
        self.assertEqual(self.done(("put", "a", -7)), 5)
        self.assertEqual(self.table.holds("a"), -7)
        self.assertEqual(self.done(("put", "a", 0)), -7)
        self.assertEqual(self.table.holds("a"), 0)
        self.assertEqual(self.done(("put", "a", 1)), 0)

    def test_add_answers_what_is_held_then(self):
        self.assertEqual(self.done(("add", "a", 5)), 5)
        self.assertEqual(self.done(("add", "a", 3)), 8)
        self.assertEqual(self.done(("add", "a", -10)), -2)
        self.assertEqual(self.done(("add", "a", 0)), -2)
        self.assertEqual(self.table.holds("a"), -2)

    def test_add_to_nothing_counts_from_nought(self):
        self.assertEqual(self.done(("add", "a", -4)), -4)
        self.assertEqual(self.done(("add", "b", 0)), 0)
        self.assertEqual(self.table.holds("b"), 0)
        self.assertEqual(self.table.told()[0], (("a", -4), ("b", 0)))

    def test_drop_answers_what_was_held(self):
        self.assertIsNone(self.done(("drop", "a")))
        self.assertIsNone(self.table.holds("a"))
        self.done(("put", "a", 9))
        self.assertEqual(self.done(("drop", "a")), 9)
        self.assertIsNone(self.table.holds("a"))
        self.assertIsNone(self.done(("drop", "a")))
        self.done(("put", "a", 0))
        self.assertEqual(self.done(("drop", "a")), 0)

    def test_behind_a_drop_the_key_holds_nothing(self):
        self.done(("put", "a", 9))
        self.done(("drop", "a"))
        self.assertEqual(self.done(("add", "a", 2)), 2)
        self.done(("drop", "a"))
        self.assertIsNone(self.done(("put", "a", 3)))

    def test_great_numbers(self):
        self.assertIsNone(self.done(("put", "a", SIXTY)))
        self.assertEqual(self.done(("add", "a", SIXTY)), 2 * SIXTY)
        self.assertEqual(self.done(("put", "a", -SIXTY)), 2 * SIXTY)
        self.assertEqual(self.done(("add", "a", -SIXTY)), -2 * SIXTY)
        self.assertEqual(self.done(("drop", "a")), -2 * SIXTY)

    def test_keys_stand_beside_one_another(self):
        keys = ("a", "aa", "aaa", "ab", "abcdefgh", "abcdefgi", "b", "ba", "bbcdefgh")
        for number, key in enumerate(keys):
            self.assertIsNone(self.done(("put", key, number)))
        self.assertEqual(self.done(("add", "aa", 100)), 101)
        self.assertEqual(self.done(("drop", "ab")), 3)
        self.assertEqual(self.done(("put", "abcdefgi", -1)), 5)
        self.assertEqual([self.table.holds(key) for key in keys], [0, 101, 2, None, 4, -1, 6, 7, 8])
        self.assertIsNone(self.table.holds("abc"))


class Asks(unittest.TestCase):
    def test_an_ask_is_done_once(self):
        table = Table((), ())
        self.assertEqual(table.does("ann", 1, ("add", "a", 5)), ("done", 5))
        for _ in range(3):
            self.assertEqual(table.does("ann", 1, ("add", "a", 5)), ("again", 5))
            self.assertEqual(table.holds("a"), 5)
        self.assertEqual(table.told(), ((("a", 5),), (("ann", 1, 5),)))

    def test_again_whatever_work_comes(self):
        table = Table((), ())
        table.does("ann", 4, ("put", "a", 5))
        told = table.told()
        for work in (("put", "a", 6), ("add", "a", 1), ("drop", "a"), ("add", "b", 1), ("put", "a", 5)):
            with self.subTest(work):
                self.assertEqual(table.does("ann", 4, work), ("again", None))
                self.assertEqual(table.told(), told)

    def test_again_tells_the_answer_as_it_was(self):
        table = Table((), ())
        table.does("ann", 1, ("add", "a", 5))
        table.does("bob", 1, ("add", "a", 5))
        table.does("bob", 2, ("drop", "a"))
        self.assertEqual(table.does("ann", 1, ("add", "a", 5)), ("again", 5))
        self.assertEqual(table.does("bob", 2, ("drop", "a")), ("again", 10))
        self.assertIsNone(table.holds("a"))

    def test_again_tells_nought_and_none_apart(self):
        table = Table((), ())
        table.does("ann", 1, ("add", "a", 0))
        table.does("bob", 1, ("drop", "b"))
        self.assertEqual(table.does("ann", 1, ("add", "a", 0)), ("again", 0))
        self.assertEqual(table.does("bob", 1, ("drop", "b")), ("again", None))

    def test_a_lesser_number_is_old(self):
        table = Table((), ())
        table.does("ann", 5, ("put", "a", 1))
        table.does("ann", 7, ("put", "a", 2))
        told = table.told()
        for number in (1, 4, 5, 6):
            with self.subTest(number):
                self.assertEqual(table.does("ann", number, ("put", "a", 9)), ("old", None))
                self.assertEqual(table.does("ann", number, ("drop", "a")), ("old", None))
                self.assertEqual(table.told(), told)
        self.assertEqual(table.does("ann", 7, ("put", "a", 9)), ("again", 1))

    def test_numbers_may_be_left_out(self):
        table = Table((), ())
        self.assertEqual(table.does("ann", 3, ("put", "a", 1)), ("done", None))
        self.assertEqual(table.does("ann", SIXTY, ("put", "a", 2)), ("done", 1))
        self.assertEqual(table.does("ann", SIXTY - 1, ("put", "a", 3)), ("old", None))
        self.assertEqual(table.does("ann", SIXTY, ("put", "a", 3)), ("again", 1))
        self.assertEqual(table.last_of("ann"), SIXTY)

    def test_each_asker_counts_alone(self):
        table = Table((), ())
        self.assertEqual(table.does("ann", 5, ("add", "a", 1)), ("done", 1))
        self.assertEqual(table.does("anna", 1, ("add", "a", 1)), ("done", 2))
        self.assertEqual(table.does("an", 2, ("add", "a", 1)), ("done", 3))
        self.assertEqual(table.does("anna", 5, ("add", "a", 1)), ("done", 4))
        self.assertEqual(table.does("an", 1, ("add", "a", 1)), ("old", None))
        self.assertEqual(table.told(), ((("a", 4),), (("an", 2, 3), ("ann", 5, 1), ("anna", 5, 4))))

    def test_last_of(self):
        table = Table((), ASKED)
        self.assertEqual(table.last_of("ann"), 3)
        self.assertEqual(table.last_of("bob"), SIXTY)
        for asker in ("an", "anna", "b", "zzzzzzzz"):
            self.assertEqual(table.last_of(asker), 0)
        table.does("ann", 9, ("drop", "a"))
        self.assertEqual(table.last_of("ann"), 9)
        table.does("ann", 4, ("drop", "a"))
        table.does("ann", 9, ("drop", "a"))
        self.assertEqual(table.last_of("ann"), 9)
        self.assertEqual(table.last_of("bobby"), 1)

    def test_asking_for_the_last_one_or_for_a_key_changes_nothing(self):
        table = Table(HELD, ASKED)
        self.assertEqual(table.last_of("none"), 0)
        self.assertIsNone(table.holds("none"))
        self.assertEqual(table.told(), (HELD, ASKED))

    def test_every_short_row_of_asks_against_the_plain_doing(self):
        works = (("put", "a", -2), ("add", "a", 3), ("drop", "a"), ("add", "b", 1))
        asks = [(asker, number, work) for asker in ("x", "y") for number in (1, 2) for work in works]
        for row in itertools.product(asks, repeat=3):
            table = Table((), ())
            answers, told = model_told(row)
            self.assertEqual([table.does(*ask) for ask in row], answers, row)
            self.assertEqual(table.told(), told, row)

    def test_doubled_and_late_asks_change_nothing(self):
        works = (("add", "a", 1), ("put", "b", 4), ("drop", "a"), ("add", "b", -9), ("add", "a", 2))
        plain, beset = Table((), ()), Table((), ())
        for number, work in enumerate(works, start=1):
            done = plain.does("ann", number, work)
            self.assertEqual(beset.does("ann", number, work), done)
            for late in range(1, number + 1):
                told = beset.does("ann", late, works[late - 1])
                self.assertEqual(told, ("again", done[1]) if late == number else ("old", None))
            self.assertEqual(beset.told(), plain.told())


class Told(unittest.TestCase):
    def test_an_empty_table(self):
        self.assertEqual(Table((), ()).told(), ((), ()))

    def test_what_it_was_made_of(self):
        self.assertEqual(Table(HELD, ASKED).told(), (HELD, ASKED))

    def test_kinds(self):
        told = Table(HELD, ASKED).told()
        self.assertIs(type(told), tuple)
        for part, size in ((told[0], 2), (told[1], 3)):
            self.assertIs(type(part), tuple)
            for thing in part:
                self.assertIs(type(thing), tuple)
                self.assertEqual(len(thing), size)

    def test_keys_and_askers_rise_in_whatever_order_they_came(self):
        keys = ("b", "ab", "a", "c", "aa", "abc")
        for order in itertools.permutations(keys):
            table = Table((), ())
            for key in order:
                table.does(key, 1, ("put", key, keys.index(key)))
            pairs = (("a", 2), ("aa", 4), ("ab", 1), ("abc", 5), ("b", 0), ("c", 3))
            self.assertEqual(table.told()[0], pairs)
            self.assertEqual(table.told()[1], tuple((key, 1, None) for key, number in pairs))

    def test_dropped_keys_are_not_told_and_their_askers_are(self):
        table = Table(HELD, ASKED)
        table.does("ann", 4, ("drop", "aa"))
        table.does("cy", 1, ("drop", "zz"))
        self.assertEqual(table.told()[0], (("a", 1), ("ab", -5), ("b", SIXTY)))
        self.assertEqual(table.told()[1], (("ann", 4, 0), ASKED[1], ASKED[2], ("cy", 1, None)))
        table.does("ann", 5, ("put", "aa", 8))
        self.assertEqual(table.told()[0], (("a", 1), ("aa", 8), ("ab", -5), ("b", SIXTY)))

    def test_only_the_last_ask_of_an_asker_is_told(self):
        table = Table((), ())
        for number in range(1, 6):
            table.does("ann", number, ("add", "a", number))
        self.assertEqual(table.told()[1], (("ann", 5, 15),))

    def test_telling_changes_nothing(self):
        table = Table(HELD, ASKED)
        self.assertEqual(table.told(), table.told())
        self.assertEqual(table.does("ann", 4, ("add", "a", 1)), ("done", 2))
        self.assertEqual(table.does("bob", SIXTY, ("drop", "a")), ("again", -7))

    def test_what_was_told_stays(self):
        table = Table(HELD, ASKED)
        told = table.told()
        table.does("ann", 4, ("drop", "a"))
        table.does("cy", 1, ("put", "c", 1))
        self.assertEqual(told, (HELD, ASKED))
        self.assertNotEqual(table.told(), told)


class Twins(unittest.TestCase):
    MAKERS = (lambda table: table.twin(), lambda table: Table(*table.told()))

    def made(self):
        table = Table(HELD, ASKED)
        table.does("ann", 4, ("add", "c", -3))
        table.does("cy", 2, ("drop", "aa"))
        return table

    def test_they_are_told_the_same(self):
        for maker in self.MAKERS:
            table = self.made()
            other = maker(table)
            self.assertIsInstance(other, Table)
            self.assertIsNot(other, table)
            self.assertEqual(other.told(), table.told())
            self.assertEqual(other.last_of("cy"), 2)
            self.assertEqual(other.holds("c"), -3)

    def test_they_do_the_same_behind(self):
        asks = (
            ("ann", 4, ("put", "a", 1)), ("cy", 1, ("drop", "a")), ("cy", 3, ("drop", "c")), ("dee", 1, ("add", "b", 1)),
            ("bob", SIXTY, ("drop", "b")), ("ann", 5, ("put", "aa", 2)), ("cy", 2, ("drop", "aa")),
        )
        answers = [
            ("again", -3), ("old", None), ("done", -3), ("done", SIXTY + 1), ("again", -7), ("done", None), ("old", None),
        ]
        for maker in self.MAKERS:
            table = self.made()
            other = maker(table)
            self.assertEqual([other.does(*ask) for ask in asks], answers)
            self.assertEqual([table.does(*ask) for ask in asks], answers)
            self.assertEqual(other.told(), table.told())

    def test_what_is_done_to_one_changes_the_other_not(self):
        for maker in self.MAKERS:
            table = self.made()
            other = maker(table)
            before = table.told()
            other.does("ann", 5, ("drop", "a"))
            other.does("eve", 1, ("put", "e", 1))
            self.assertEqual(table.told(), before)
            after = other.told()
            table.does("ann", 9, ("put", "a", 70))
            table.does("bob", SIXTY + 1, ("drop", "b"))
            self.assertEqual(other.told(), after)
            self.assertEqual(other.last_of("ann"), 5)

    def test_a_table_of_numbers_beyond_sixty_figures(self):
        table = Table((("a", SIXTY),), ())
        table.does("ann", 1, ("add", "a", SIXTY))
        for maker in self.MAKERS:
            other = maker(table)
            self.assertEqual(other.does("ann", 1, ("drop", "a")), ("again", 2 * SIXTY))
            self.assertEqual(other.told(), ((("a", 2 * SIXTY),), (("ann", 1, 2 * SIXTY),)))

    def test_what_was_handed_in_stays(self):
        held, asked = [("a", 1)], [("ann", 3, None)]
        work = ("add", "a", 1)
        table = Table(tuple(held), tuple(asked))
        listed = Table(held, asked)
        table.does("ann", 4, work)
        listed.does("ann", 4, work)
        self.assertEqual((held, asked, work), ([("a", 1)], [("ann", 3, None)], ("add", "a", 1)))
        held.append(("b", 2))
        asked.clear()
        self.assertEqual(listed.told(), table.told())
        self.assertEqual(listed.told(), ((("a", 2),), (("ann", 4, 2),)))
