"""Points 46 to 48: journals judged, what they show to be settled, and what is refused."""

import random

from chainhouse.errors import NoJournal
from chainhouse.judge import judged
from chainhouse.towns import Town
from storms import Storm
from things import GREAT, NO_DEEDS, NO_ENTRIES, NO_NAMES, NO_WHOLES, Refusing, deep, deep_tuple

BENCH = (("a", "b", "c"), (), ())
JOINED = (("a", "b", "c"), ("c", "d"), ())
PLAIN = (("c", "d"), (), ())


def ask(number):
    return ("ask", "ann", number, ("add", "k", 1))


FIRST, SECOND, THIRD, LATER = (1, ("first",)), (1, ask(1)), (1, ask(2)), (3, ("first",))
A = (("vote", 1, "a", 0, 0), ("put", 1, ("first",)), ("put", 1, ask(1)), ("put", 1, ask(2)))
B = (
    ("vote", 1, "a", 0, 0), ("rows", 1, "a", 0, 0, (FIRST,)), ("rows", 1, "a", 1, 1, (SECOND, THIRD)), ("vote", 3, "b", 3, 1),
    ("put", 3, ("first",)),
)
C = (("rows", 1, "a", 0, 0, (FIRST, SECOND)), ("vote", 3, "b", 3, 1), ("rows", 3, "b", 2, 1, (THIRD, LATER)))
D = (("vote", 3, "zed", 0, 0),)
TOLD = ((1, (FIRST, SECOND, THIRD)), (3, (FIRST, SECOND, THIRD, LATER)))


def journals(a=A, b=B, c=C, d=D):
    return (("a", a), ("b", b), ("c", c), ("d", d))


def with_record(records, number, record):
    return records[:number] + (record,) + records[number + 1:]


def without(records, number):
    return records[:number] + records[number + 1:]


class Judging(Refusing):
    def refused(self, things, bench=BENCH):
        self.refuses(NoJournal, judged, bench, things)


class Held(Judging):
    def test_what_is_told(self):
        told = judged(BENCH, journals())
        self.assertEqual(told, TOLD)
        self.assertIs(type(told), tuple)
        self.assertIs(type(told[0][1]), tuple)

    def test_no_journals_and_empty_ones(self):
        self.assertEqual(judged(BENCH, ()), ())
        self.assertEqual(judged(BENCH, (("a", ()), ("b", ()))), ())

    def test_votes_without_a_chair(self):
        things = (("a", (("vote", 1, "b", 0, 0), ("vote", 2, "a", 0, 0))), ("b", (("vote", 2, "b", 9, 9),)))
        self.assertEqual(judged(BENCH, things), ())

    def test_nothing_settled(self):
        self.assertEqual(judged(BENCH, journals(b=B[:1], c=())), ((1, ()),))

    def test_more_is_shown_than_the_chair_knows(self):
        self.assertEqual(judged(BENCH, journals(b=B[:2], c=())), ((1, (FIRST,)),))
        self.assertEqual(judged(BENCH, journals(b=B[:1], c=C[:1])), ((1, (FIRST, SECOND)),))

    def test_alone(self):
        things = (("a", (("vote", 5, "a", 0, 0), ("put", 5, ("first",)), ("put", 5, ask(1)))),)
        self.assertEqual(judged((("a",), (), ()), things), ((5, ((5, ("first",)), (5, ask(1)))),))

    def test_entries_of_earlier_terms_count_by_a_later_one_s(self):
        # b takes over what a put and none settled; what has term 1 is settled only with an entry of term 3.
        b = (B[0], ("rows", 1, "a", 0, 0, (FIRST,)), ("vote", 3, "b", 1, 1), ("put", 3, ("first",)))
        c = (("vote", 3, "b", 1, 1), ("rows", 3, "b", 0, 0, (FIRST,)))
        self.assertEqual(judged(BENCH, journals(b=b, c=c)), ((1, (FIRST,)), (3, ())))
        c = c + (("rows", 3, "b", 1, 1, (LATER,)),)
        self.assertEqual(judged(BENCH, journals(b=b, c=c)), ((1, (FIRST,)), (3, (FIRST, LATER))))

    def test_rows_that_are_heard_again_and_late(self):
        b = B[:3] + (B[1], B[2], ("rows", 1, "a", 0, 0, ()), ("rows", 1, "a", 2, 1, (THIRD,))) + B[3:]
        self.assertEqual(judged(BENCH, journals(b=b)), TOLD)

    def test_a_house_that_goes_to_another_chair_s_row(self):
        # c has an entry of a chair that none else heard; the next chair's rows cut it.
        a = (("vote", 1, "a", 0, 0), ("put", 1, ("first",)))
        b = (("vote", 1, "a", 0, 0), ("vote", 2, "b", 0, 0), ("put", 2, ("first",)))
        c = (("rows", 1, "a", 0, 0, (FIRST,)), ("rows", 2, "b", 0, 0, ((2, ("first",)),)))
        self.refused((("a", a), ("b", b), ("c", c)))
        b = (("vote", 1, "a", 0, 0), ("vote", 2, "b", 0, 0), ("put", 2, ("first",)))
        d = (("vote", 1, "a", 0, 0), ("vote", 2, "b", 0, 0), ("rows", 2, "b", 0, 0, ((2, ("first",)),)))
        e = (("rows", 1, "a", 0, 0, (FIRST,)), ("rows", 2, "b", 0, 0, ((2, ("first",)),)))
        things = (("a", a), ("b", b), ("c", (("vote", 2, "b", 0, 0),)), ("d", d), ("e", e))
        told = judged((tuple("abcde"), (), ()), things)
        self.assertEqual(told, ((1, ()), (2, ((2, ("first",)),))))

    def test_what_is_handed_in_stays(self):
        things = journals()
        before = repr(things)
        judged(BENCH, things)
        self.assertEqual(repr(things), before)


class Shapes(Judging):
    def test_journals_that_are_none(self):
        for things in (
            None, True, 0, 1, GREAT, "", "a", [], list(journals()), ("a", A), (("a", A, A),), (("a",),), (["a", A],), (("a", list(A)),),
            ((A, "a"),), (None,), ((),), ([],), (("a", None),), (("a", "vote"),), (("a", 1),), deep(100000), deep_tuple(100000),
            (deep_tuple(100000),), (("a", deep_tuple(100000)),), (("a", deep(100000)),), (("a", ()), None), ({}, {}),
        ):
            self.refused(things)

    def test_names(self):
        for name in NO_NAMES:
            self.refused(((name, ()),))
            self.refused((("a", ()), (name, ())))
        self.refused((("b", ()), ("a", ())))
        self.refused((("a", ()), ("a", ())))
        self.refused((("a", A), ("a", ())))

    def test_records_that_are_none(self):
        for thing in (
            None, True, 0, "", "vote", (), [], ("vote",), ("put",), (None,) * 5, ("vote", 1), ("put", 1), list(A[0]), (A[0],),
            A[0][:4], A[0] + (0,), A[1] + (0,), A[1][:2], B[1][:5], B[1] + (0,), ("stand", 1, "a", 1), ("stand", 1, "a", 1, 1, 1),
            ("Vote",) + A[0][1:], ("look",) + A[0][1:], (["vote"],) + A[0][1:], (("vote",),) + A[0][1:], deep(100000),
            deep_tuple(100000), (deep_tuple(100000),) * 5, (deep(100000), 1, "a", 0, 0),
        ):
            self.refused((("d", (thing,)),))
            self.refused(journals(d=D + (thing,)))

    def test_each_part(self):
        wholes = NO_WHOLES + (-1, -GREAT)
        stand = ("stand", 1, "a", 1, 1)
        for record, things in (
            (B[0], ((1, wholes + (0,)), (2, NO_NAMES), (3, wholes), (4, wholes))),
            (B[1], ((1, wholes + (0,)), (2, NO_NAMES), (3, wholes), (4, wholes), (5, ([], None, "", [FIRST], FIRST, deep(9))))),
            (stand, ((1, wholes + (0,)), (2, NO_NAMES), (3, wholes), (4, wholes))),
        ):
            for place, others in things:
                for thing in others:
                    self.refused(journals(b=B[:1] + (record[:place] + (thing,) + record[place + 1:],)))
                    self.refused((("z", (record[:place] + (thing,) + record[place + 1:],)),))
        for term in wholes + (0,):
            self.refused((("a", (("put", term, ("first",)),)),))
            self.refused(journals(a=(A[0], ("put", term, ("first",)))))

    def test_entries_and_deeds_within(self):
        for entry in NO_ENTRIES:
            self.refused(journals(b=B[:1] + (("rows", 1, "a", 0, 0, (entry,)),)))
        for deed in NO_DEEDS:
            self.refused(journals(a=A + (("put", 1, deed),)))
        self.refused(journals(a=A[:3] + (A[3] + (0,),)))

    def test_terms_that_fall(self):
        self.refused(journals(d=(("vote", 3, "b", 9, 9), ("vote", 2, "b", 9, 9))))
        self.assertEqual(judged(BENCH, journals(d=(("vote", 2, "b", 9, 9), ("vote", 3, "b", 9, 9)))), TOLD)
        self.refused(journals(b=B[:3] + (("vote", 5, "b", 99, 99),) + B[3:]))

    def test_truths_are_no_numbers_though_they_are_like_them(self):
        self.refused(journals(a=(("vote", True, "a", 0, 0),) + A[1:]))
        self.refused(journals(a=(("vote", 1, "a", False, 0),) + A[1:]))
        self.refused(journals(b=(B[0], ("rows", 1, "a", 0, 0, ((True, ("first",)),)))))


class Chairs(Judging):
    def test_two_in_a_term(self):
        d = (("vote", 1, "d", 0, 0), ("put", 1, ("first",)))
        self.refused(journals(d=d))
        self.refused((("a", A[:2]), ("b", (("vote", 1, "b", 0, 0), ("put", 1, ("first",))))))

    def test_its_own_vote(self):
        for vote in (("vote", 1, "b", 0, 0), ("vote", 1, "a", 1, 0), ("vote", 1, "a", 0, 1)):
            self.refused(journals(a=(vote,) + A[1:]))
        for vote in (("vote", 3, "c", 3, 1), ("vote", 3, "b", 2, 1), ("vote", 3, "b", 4, 1), ("vote", 3, "b", 3, 0), ("vote", 3, "b", 3, 3)):
            self.refused(journals(b=B[:3] + (vote,) + B[4:], c=(C[0], ("vote",) + vote[1:], C[2])))
        self.refused(journals(a=A[1:]))
        self.refused(journals(a=A[1:2] + A[:1] + A[2:]))
        self.refused(journals(a=A[:1] + A))
        self.refused(journals(a=A + A[:1]))

    def test_its_first_put(self):
        self.refused(journals(a=(A[0], A[2], A[3]), b=B[:1], c=()))
        self.refused(journals(a=A + (("put", 1, ("first",)),)))
        self.refused(journals(a=(A[0], A[2], A[1], A[3]), b=B[:1], c=()))

    def test_other_records_of_it(self):
        for record in (("rows", 1, "a", 0, 0, ()), ("rows", 1, "b", 0, 0, ()), ("stand", 1, "a", 0, 0), ("vote", 1, "b", 9, 9)):
            for place in range(len(A) + 1):
                self.refused(journals(a=A[:place] + (record,) + A[place:]))

    def test_more_than_half_voted(self):
        self.refused(journals(b=B[1:3], c=(), d=()))
        self.refused(journals(b=B[1:]))
        for vote in (("vote", 1, "b", 0, 0), ("vote", 1, "a", 1, 0), ("vote", 1, "a", 0, 1)):
            self.refused(journals(b=with_record(B, 0, vote)))
        # One that is no voter counts for nothing, and one that is does.
        self.refused(journals(b=B[1:], d=(("vote", 1, "a", 0, 0),)))
        self.assertEqual(judged(BENCH, journals(b=B[1:], c=(("vote", 1, "a", 0, 0),) + C)), TOLD)

    def test_the_very_half_of_four(self):
        bench = (tuple("abcd"), (), ())
        vote = (("vote", 1, "a", 0, 0),)
        self.refused((("a", A), ("b", vote)), bench)
        self.assertEqual(judged(bench, (("a", A), ("b", vote), ("d", vote))), ((1, ()),))

    def test_a_vote_behind_rows_of_the_term_stands_but_does_not_count(self):
        rows = ("rows", 1, "a", 0, 0, ())
        vote = ("vote", 1, "a", 0, 0)
        self.refused((("a", A), ("b", (rows, vote))))
        self.refused((("a", A), ("b", (("stand", 1, "a", 0, 0), vote))))
        self.assertEqual(judged(BENCH, (("a", A), ("b", (vote, rows)))), ((1, ()),))
        self.assertEqual(judged(BENCH, (("a", A), ("b", (rows, vote)), ("c", (vote,)))), ((1, ()),))
        # Rows of an earlier term are not of this one.
        self.assertEqual(judged(BENCH, journals()), TOLD)

    def test_of_the_bench_as_it_voted(self):
        # The chair's row tells a joined bench: more than half of both sides must vote.
        a = A[:2] + (("put", 1, ("bench", JOINED)),)
        b = (B[0], ("rows", 1, "a", 0, 0, (FIRST, (1, ("bench", JOINED)))), ("vote", 2, "b", 2, 1), ("put", 2, ("first",)))
        vote = (("vote", 2, "b", 2, 1),)
        self.refused((("a", a + vote), ("b", b), ("c", vote)))
        self.refused((("a", a + vote), ("b", b), ("d", vote)))
        self.assertEqual(len(judged(BENCH, (("a", a), ("b", b), ("c", vote), ("d", vote)))), 2)


class Others(Judging):
    def test_two_votes(self):
        self.refused(journals(d=D * 2))
        self.refused(journals(d=D + (("vote", 3, "b", 3, 1),)))
        self.refused(journals(b=B[:1] + B))
        self.refused((("a", (("vote", 1, "a", 0, 0), ("vote", 1, "a", 0, 0))),))

    def test_a_vote_for_a_row_that_is_behind(self):
        for place, last, holds in (
            (2, 1, True), (3, 1, True), (1, 1, False), (9, 0, False), (0, 2, True), (0, 1, False), (0, 0, False),
        ):
            things = journals(c=C[:1] + (("vote", 2, "zed", place, last),), b=B[:3], d=())
            if holds:
                self.assertEqual(judged(BENCH, things), TOLD[:1])
            else:
                self.refused(things)

    def test_its_row_then(self):
        # Behind the rows of the term it has more than ahead of them.
        vote = ("vote", 1, "zed", 0, 0)
        self.assertEqual(judged(BENCH, journals(c=(vote,) + C)), TOLD)
        self.refused(journals(c=C[:1] + (vote,) + C[1:]))

    def test_rows_and_stands_of_another_chair(self):
        for name in ("b", "c", "zed"):
            self.refused(journals(b=with_record(B, 1, ("rows", 1, name, 0, 0, (FIRST,)))))
            self.refused(journals(b=with_record(B, 1, ("stand", 1, name, 1, 1))))
        for record in (("rows", 2, "a", 0, 0, ()), ("stand", 2, "a", 0, 0), ("rows", 4, "b", 0, 0, ()), ("stand", 9, "b", 1, 1)):
            self.refused(journals(d=(record,)))

    def test_what_the_chair_s_row_has(self):
        for before, there, entries in (
            (0, 1, (FIRST,)), (1, 0, (SECOND,)), (1, 1, (THIRD,)), (1, 1, (FIRST,)), (0, 0, (SECOND,)), (0, 0, ((2, ("first",)),)),
            (3, 1, (SECOND,)), (4, 1, ()), (4, 0, ()), (0, 0, (FIRST, SECOND, THIRD, SECOND)), (GREAT, 0, ()), (GREAT, 1, (FIRST,)),
            (0, 0, (FIRST, (1, ask(7)))),
        ):
            self.refused(journals(b=B[:2] + (("rows", 1, "a", before, there, entries),)))

    def test_what_the_house_s_row_has(self):
        # The chair's row has it, the house's has nothing there, or another term.
        self.refused(journals(b=B[:1] + (B[2],)))
        self.refused(journals(c=(("rows", 1, "a", 1, 1, (SECOND,)),)))
        self.refused(journals(c=C[1:]))
        self.assertEqual(judged(BENCH, journals(b=B[:1] + (("rows", 1, "a", 0, 0, ()),), c=())), ((1, ()),))

    def test_a_record_left_out_doubled_exchanged(self):
        for letter, records, numbers in (("a", A, (0, 1)), ("b", B, (0, 1, 2, 3, 4)), ("c", C, (0, 1))):
            for number in numbers:
                self.refused(journals(**{letter: without(records, number)}))
        # Without its last put, or c's last rows, less is shown.
        self.refused(journals(a=A[:3]))
        self.assertEqual(judged(BENCH, journals(c=C[:2])), (TOLD[0], (3, ())))
        for letter, records, numbers in (("a", A, (0, 1)), ("b", B, (0, 3, 4)), ("c", C, (1,))):
            for number in numbers:
                self.refused(journals(**{letter: records[:number] + records[number:number + 1] + records[number:]}))
        for number in (0, 1, 2, 3):
            other = without(B, number)
            self.refused(journals(b=other[:number + 1] + (B[number],) + other[number + 1:]))

    def test_stands(self):
        # A house without them gets the chair's first entries, one that has the place keeps its own.
        stand = ("stand", 1, "a", 2, 1)
        for c in ((stand,), (stand, ("rows", 1, "a", 2, 1, (THIRD,))), (C[0], stand), (("rows", 1, "a", 0, 0, (FIRST, SECOND, THIRD)), stand)):
            self.assertEqual(judged(BENCH, journals(c=c + C[1:])), TOLD)
        self.refused(journals(c=(("stand", 1, "a", 1, 1),) + C[1:]))
        for place, there in ((2, 0), (2, 2), (4, 1), (0, 1), (GREAT, 1), (4, 0)):
            self.refused(journals(d=(("stand", 1, "a", place, there),)))

    def test_a_stand_counts_as_accepted(self):
        for place, shown in ((1, 1), (2, 2), (3, 3)):
            told = judged(BENCH, journals(b=B[:1], c=(("stand", 1, "a", place, 1),), d=()))
            self.assertEqual(told, ((1, TOLD[0][1][:shown]),))
        # Rows behind it with a lesser place leave the greatest one.
        c = (("stand", 1, "a", 3, 1), ("rows", 1, "a", 0, 0, (FIRST,)))
        self.assertEqual(judged(BENCH, journals(b=B[:1], c=c, d=())), TOLD[:1])

    def test_a_stand_that_cuts(self):
        # c's row of another chair is gone where the chair's row has another term at the stand's place.
        other = (2, ("first",))
        a = (("vote", 2, "a", 0, 0), ("put", 2, ("first",)), ("put", 2, ask(1)))
        b = (("vote", 2, "a", 0, 0), ("rows", 2, "a", 0, 0, (other,)))
        c = (("vote", 1, "c", 0, 0), ("put", 1, ("first",)), ("stand", 2, "a", 1, 2), ("rows", 2, "a", 1, 2, ((2, ask(1)),)))
        d = (("vote", 1, "c", 0, 0),)
        e = (("vote", 1, "c", 0, 0), ("vote", 2, "a", 0, 0))
        things = (("a", a), ("b", b), ("c", c), ("d", d), ("e", e))
        self.assertEqual(judged((tuple("abcde"), (), ()), things), ((1, ()), (2, (other,))))
        # Where it has the term there it stays, with all that is behind it.
        c = (("rows", 1, "a", 0, 0, (FIRST, SECOND, THIRD)), ("stand", 1, "a", 1, 1), ("rows", 1, "a", 3, 1, ()))
        self.assertEqual(judged(BENCH, journals(c=c + C[1:])), TOLD)


class BenchesPut(Judging):
    def town(self, a, b, c=(), d=(), e=()):
        return (("a", a), ("b", b), ("c", c), ("d", d), ("e", e))

    def setUp(self):
        self.vote = ("vote", 1, "a", 0, 0)
        self.first = (self.vote, ("put", 1, ("first",)))
        self.joined = ("put", 1, ("bench", JOINED))
        self.plain = ("put", 1, ("bench", PLAIN))
        self.rows = (FIRST, (1, ("bench", JOINED)), (1, ("bench", PLAIN)))

    def heard(self, many):
        return ("rows", 1, "a", 0, 0, self.rows[:many])

    def test_one_that_follows(self):
        told = judged(BENCH, self.town(self.first + (self.joined,), (self.vote, self.heard(1))))
        self.assertEqual(told, ((1, (FIRST,)),))

    def test_put_too_soon(self):
        # The chair's first entry is not held by more than half of the bench ahead.
        self.refused(self.town(self.first + (self.joined,), (self.vote,)))
        self.refused(self.town(self.first + (self.joined,), (self.vote,), d=(self.heard(2),), e=(self.heard(2),)))
        self.assertEqual(len(judged(BENCH, self.town(self.first + (self.joined,), (self.vote,), c=(self.heard(1),)))), 1)

    def test_the_plain_one_behind(self):
        a = self.first + (self.joined, self.plain)
        for c, d, shown in (
            ((self.heard(2),), (self.heard(2),), 2), ((self.heard(2),), (self.heard(3),), 2),
            ((self.heard(3),), (self.heard(2),), 2), ((self.heard(3),), (self.heard(3),), 3),
        ):
            self.assertEqual(judged(BENCH, self.town(a, (self.vote,), c, d)), ((1, self.rows[:shown]),))
        # The joined one must be held by more than half of both sides.
        for b, c, d in (
            ((self.vote,), (self.heard(1),), (self.heard(2),)), ((self.vote,), (self.heard(2),), (self.heard(1),)),
            ((self.vote, self.heard(2)), (self.heard(2),), ()), ((self.vote, self.heard(1)), (), (self.heard(2),)),
        ):
            self.refused(self.town(a, b, c, d))

    def test_those_that_do_not_follow(self):
        b = (self.vote, ("rows", 1, "a", 0, 0, (FIRST,)))
        for bench in (BENCH, PLAIN, (("a", "b"), ("c", "d"), ()), (("c", "d"), ("a", "b", "c"), ()), (("a", "b", "c"), (), ("d",))):
            self.refused(self.town(self.first + (("put", 1, ("bench", bench)),), b))
        rows = (("rows", 1, "a", 0, 0, self.rows[:2]),)
        for bench in (JOINED, BENCH, (JOINED[0], ("a", "d"), ()), (("c", "d"), (), ("a",)), (("c",), (), ())):
            self.refused(self.town(self.first + (self.joined, ("put", 1, ("bench", bench))), (self.vote,) + rows, rows, rows))
        self.assertEqual(
            len(judged(BENCH, self.town(self.first + (self.joined, self.plain), (self.vote,) + rows, rows, rows))), 1
        )

    def test_of_a_later_chair(self):
        # m is the place of the later chair's first entry where the bench ahead came earlier.
        a = self.first + (self.joined,)
        b = (self.vote, self.heard(2), ("vote", 2, "b", 2, 1), ("put", 2, ("first",)), ("put", 2, ("bench", PLAIN)))
        vote = ("vote", 2, "b", 2, 1)
        later = ("rows", 2, "b", 2, 1, ((2, ("first",)),))
        stand = ("stand", 2, "b", 2, 1)
        for c, d, holds in (
            ((vote, stand, later), (vote, stand, later), True), ((vote, stand), (vote, stand, later), False),
            ((vote, stand, later), (vote, stand), False), ((vote, stand), (vote, stand), False),
        ):
            things = self.town(a, b, c, d)
            if holds:
                self.assertEqual(judged(BENCH, things)[1], (2, self.rows[:2] + ((2, ("first",)),)))
            else:
                self.refused(things)

    def test_settled_by_the_bench_of_some_place_from_it_on(self):
        # c and d hold the first entry: no more than half of a b c with the chair but for c; the plain one is c d.
        rows = self.rows
        a = self.first + (self.joined, self.plain, ("put", 1, ask(1)))
        told = judged(BENCH, self.town(a, (self.vote,), (self.heard(3),), (self.heard(3),)))
        self.assertEqual(told, ((1, rows),))
        last = ("rows", 1, "a", 3, 1, ((1, ask(1)),))
        told = judged(BENCH, self.town(a, (self.vote,), (self.heard(3), last), (self.heard(3), last)))
        self.assertEqual(told, ((1, rows + ((1, ask(1)),)),))
        # a and b hold all: enough for the first bench, at no place from the joined one's on.
        told = judged(BENCH, self.town(self.first + (self.joined,), (self.vote, self.heard(2))))
        self.assertEqual(told, ((1, rows[:1]),))

    def test_by_the_later_bench_alone(self):
        # One voter ahead, one behind: place 1 is held by the one behind, and its bench is told at place 3.
        bench = (("a",), (), ())
        benches = ((("a",), ("b",), ()), (("b",), (), ()))
        entries = (FIRST, (1, ("bench", benches[0])), (1, ("bench", benches[1])), (1, ask(1)))
        a = tuple([self.vote] + [("put", 1, deed) for _, deed in entries])
        b = (("rows", 1, "a", 0, 0, entries[:2]),)
        self.assertEqual(judged(bench, (("a", a), ("b", b))), ((1, entries[:2]),))
        b = (("rows", 1, "a", 0, 0, entries),)
        self.assertEqual(judged(bench, (("a", a), ("b", b))), ((1, entries),))


class OfTowns(Judging):
    def test_its_own(self):
        town = Town(BENCH, (("a", 2), ("b", 3), ("c", 4), ("d", 5)), 9)
        for deed in (
            ("turn", "a"), ("turn", "a"), ("run", 99), ("ask", "a", "ann", 1, ("put", "k", 1)), ("run", 99), ("cut", "a"),
            ("change", "a", ("b", "d"), ("a",)), ("run", 99), ("turn", "a"), ("run", 99), ("turn", "a"), ("run", 99),
        ):
            town.do(deed)
        told = judged(BENCH, town.journals())
        self.assertEqual(told, ((1, town.written("b")[4]),))
        self.assertEqual(len(told[0][1]), 4)

    def beginnings(self, told):
        longest = max([entries for _, entries in told], key=len, default=())
        for _, entries in told:
            self.assertEqual(entries, longest[:len(entries)])

    def spoilt(self, draw, journals):
        """One or two records of somebody's journal dropped, doubled, moved or altered."""
        things = [(name, list(records)) for name, records in journals]
        for _ in range(draw.choice((1, 1, 2))):
            records = draw.choice(things)[1]
            if records:
                number = draw.randrange(len(records))
                record = records.pop(number)
                way = draw.choice(("drop", "double", "move", "alter", "name"))
                if way == "double":
                    records[number:number] = [record, record]
                elif way == "move":
                    records.insert(max(0, number + draw.choice((-1, 1))), record)
                elif way == "alter":
                    place = draw.choice([place for place, part in enumerate(record) if isinstance(part, int)])
                    records.insert(number, record[:place] + (max(0, record[place] + draw.choice((-1, 1))),) + record[place + 1:])
                elif way == "name" and record[0] != "put":
                    records.insert(number, record[:2] + (draw.choice(things)[0],) + record[3:])
        return tuple((name, tuple(records)) for name, records in things)

    def test_whoever_wrote_them_told_rows_are_beginnings_of_one_another(self):
        held = refused = 0
        for seed in range(40):
            storm = Storm(self, seed, weights={"turn": 30, "run": 20, "fall": 2, "change": 5})
            storm.rage(120)
            twins = [storm.town.twin() for _ in range(2)]
            for town in twins:
                storm.town = storm.watch.town = town
                for _ in range(60):
                    try:
                        town.do(storm.deed())
                    except ValueError:
                        pass
            draw = random.Random(seed)
            tries = [tuple(draw.choice(pairs) for pairs in zip(*[town.journals() for town in twins])) for _ in range(4)]
            tries += [self.spoilt(draw, draw.choice(twins).journals()) for _ in range(8)]
            for things in tries:
                try:
                    self.beginnings(judged(storm.bench, things))
                    held += 1
                except NoJournal:
                    refused += 1
        self.assertGreater(held, 100)
        self.assertGreater(refused, 100)
