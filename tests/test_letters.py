from chainhouse.errors import NoLetter
from chainhouse.letters import check_letter
from things import ENTRIES, GREAT, NO_ENTRIES, NO_NAMES, NO_WHOLES, SIXTY, Refusing, deep, deep_tuple

FIRST = (1, ("first",))
LETTERS = (
    ("look", "a", "b", 3, 4, 2),
    ("saw", "a", "b", 3, True, 4),
    ("vote", "a", "b", 3, 4, 2),
    ("gave", "a", "b", 3, False),
    ("rows", "a", "b", 3, 4, 2, (FIRST, (3, ("ask", "ann", 1, ("drop", "k")))), 4, 9),
    ("took", "a", "b", 3, True, 4, 9),
    ("piece", "a", "b", 3, 4, 2, 1, 5, "stand 4 2", 9),
    ("got", "a", "b", 3, 4, 1, 9),
)
# The sorts of each kind's parts, as point 16 tells them.
SORTS = {
    "look": "word name name whole whole whole",
    "saw": "word name name whole truth whole",
    "vote": "word name name whole whole whole",
    "gave": "word name name whole truth",
    "rows": "word name name whole whole whole entries whole whole",
    "took": "word name name whole truth whole whole",
    "piece": "word name name whole whole whole number many text whole",
    "got": "word name name whole whole whole whole",
}
DEEPS = (deep(50), deep(100000), deep_tuple(50), deep_tuple(100000))
BELOW_NOUGHT = (-1, -2, -SIXTY, -GREAT)
NO_TRUTHS = (0, 1, -1, 2, None, "", "True", "yes", (), [], (True,), [True], GREAT) + DEEPS
SPOILT = {
    "word": ("", "Look", "looks", "loo", "letter", "look ", " saw", "first", "ask", None, True, False, 0, 1, (), [],
             ("look",), ["look"], GREAT) + DEEPS,
    "name": NO_NAMES,
    "whole": NO_WHOLES + BELOW_NOUGHT,
    "number": NO_WHOLES + BELOW_NOUGHT + (5, 6, SIXTY, GREAT),
    "many": NO_WHOLES + BELOW_NOUGHT + (0, 1),
    "truth": NO_TRUTHS,
    "text": (None, True, False, 0, 1, -1, (), [], ("a",), ["a"], GREAT) + DEEPS,
    "entries": (None, True, False, 0, 1, "", "a", [], [FIRST], FIRST, GREAT, (None,), ((),), ((FIRST,),), ([FIRST],),
                (FIRST, None), (FIRST, FIRST, (0, ("first",))), ([1, ("first",)],)) + DEEPS,
}
KEPT = {
    "name": ("a", "z", "abcdefgh"), "whole": (0, 1, 2, SIXTY, GREAT), "truth": (True, False), "number": (0, 1, 4),
    "many": (2, 3, SIXTY, GREAT), "text": ("", "a", " ", "\n", "stand 0 0\nbench a / /", "~" * 200, "\u00e9"),
    "entries": ((), (FIRST,), (FIRST, FIRST), ENTRIES),
}


def with_part(letter, number, part):
    return letter[:number] + (part,) + letter[number + 1:]


def parts_of(letter):
    return enumerate(SORTS[letter[0]].split())


class Letters(Refusing):
    def refused(self, thing):
        self.refuses(NoLetter, check_letter, thing)

    def test_each_kind_is_let_by(self):
        for letter in LETTERS:
            with self.subTest(letter):
                self.assertIsNone(check_letter(letter))

    def test_each_part_may_be_any_of_its_sort(self):
        for letter in LETTERS:
            for number, sort in parts_of(letter):
                for part in KEPT.get(sort, ()):
                    with self.subTest(kind=letter[0], number=number):
                        self.assertIsNone(check_letter(with_part(letter, number, part)))

    def test_each_part_spoilt(self):
        for letter in LETTERS:
            for number, sort in parts_of(letter):
                for which, part in enumerate(SPOILT[sort]):
                    with self.subTest(kind=letter[0], number=number, which=which):
                        self.refused(with_part(letter, number, part))

    def test_another_kind_s_word(self):
        for letter in LETTERS:
            for other in LETTERS:
                fits = SORTS[letter[0]] == SORTS[other[0]]
                with self.subTest(letter=letter[0], other=other[0]):
                    if fits:
                        self.assertIsNone(check_letter(with_part(letter, 0, other[0])))
                    else:
                        self.refused(with_part(letter, 0, other[0]))

    def test_a_part_left_out(self):
        for letter in LETTERS:
            for number in range(len(letter)):
                with self.subTest(kind=letter[0], number=number):
                    self.refused(letter[:number] + letter[number + 1:])
                    self.refused(letter[:number])

    def test_a_part_put_in(self):
        for letter in LETTERS:
            for number in range(len(letter) + 1):
                for part in (None, 0, 1, True, "a", (), "look"):
                    with self.subTest(kind=letter[0], number=number, part=part):
                        self.refused(letter[:number] + (part,) + letter[number:])

    def test_a_list_for_the_tuple(self):
        for letter in LETTERS:
            self.refused(list(letter))
            self.refused((letter,))
            self.refused([letter])

    def test_things_that_are_no_letters(self):
        for thing in (None, True, False, 0, 1, GREAT, "", "look", "look a b 3 4 2", (), [], ((),), (None,), ("look",)) + DEEPS:
            self.refused(thing)
        for name in SORTS:
            self.refused((name,))
            self.refused(name)

    def test_number_and_many(self):
        for number in range(5):
            for many in range(5):
                letter = ("piece", "a", "b", 3, 4, 2, number, many, "x", 9)
                if number < many:
                    self.assertIsNone(check_letter(letter))
                else:
                    self.refused(letter)

    def test_a_got_s_number_is_bound_by_nothing(self):
        self.assertIsNone(check_letter(("got", "a", "b", 0, 0, GREAT, 0)))

    def test_entries_within_rows(self):
        for number, entry in enumerate(NO_ENTRIES):
            with self.subTest(number=number):
                self.refused(with_part(LETTERS[4], 6, (entry,)))
                self.refused(with_part(LETTERS[4], 6, (FIRST, entry)))

    def test_all_at_nought(self):
        for letter in LETTERS:
            nought = [0 if sort in ("whole", "number") else part for part, (_, sort) in zip(letter, parts_of(letter))]
            self.assertIsNone(check_letter(tuple(nought)))

    def test_what_is_looked_at_is_not_changed(self):
        thing = ["rows", ["a"], "b", [3]]
        self.refused(thing)
        self.refused(with_part(LETTERS[4], 6, thing))
        self.assertEqual(thing, ["rows", ["a"], "b", [3]])
