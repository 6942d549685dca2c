"""Journals judged: whether what houses say they wrote holds together, and what it shows to be settled."""

from chainhouse.benches import is_half, is_step
from chainhouse.errors import NoJournal
from chainhouse.letters import is_part
from chainhouse.rows import Row, is_deed
from chainhouse.stands import first_stand
from chainhouse.works import is_name, is_rising_names, is_whole_from

# Each record's parts behind its word and its term.
PARTS = {
    "vote": ("name", "whole", "whole"),
    "rows": ("name", "whole", "whole", "entries"),
    "stand": ("name", "whole", "whole"),
}


def is_record(thing):
    # The word is looked at first: a dict can't be asked for a list.
    if not isinstance(thing, tuple) or len(thing) < 3 or not isinstance(thing[0], str):
        return False
    if not is_whole_from(thing[1], 1):
        return False
    if thing[0] == "put":
        return len(thing) == 3 and is_deed(thing[2])
    if thing[0] not in PARTS or len(thing) != len(PARTS[thing[0]]) + 2:
        return False
    return all([is_part(sort, part) for sort, part in zip(PARTS[thing[0]], thing[2:])])


def is_journal(thing):
    if not isinstance(thing, tuple) or len(thing) != 2 or not is_name(thing[0]) or not isinstance(thing[1], tuple):
        return False
    if not all([is_record(record) for record in thing[1]]):
        return False
    terms = [record[1] for record in thing[1]]
    return all([term <= following for term, following in zip(terms, terms[1:])])


def hold(truth, words):
    if not truth:
        raise NoJournal(words)


def check_journals(thing):
    hold(isinstance(thing, tuple) and all([is_journal(pair) for pair in thing]), "these are no journals")
    hold(is_rising_names(tuple([pair[0] for pair in thing])), "the names of journals don't rise")


def by_terms(journals):
    # For each term the records of each house that has some, in their order.
    terms = {}
    for name, records in journals:
        for record in records:
            terms.setdefault(record[1], {}).setdefault(name, []).append(record)
    return terms


def chair_in(records):
    chairs = [name for name in records if any([record[0] == "put" for record in records[name]])]
    hold(len(chairs) <= 1, "two houses put in one term")
    return chairs[0] if len(chairs) == 1 else None


def row_with_puts(row, name, term, records):
    vote = ("vote", term, name, row.last_place(), row.last_term())
    hold(records[0] == vote, "a chair's own vote is not as its row was")
    deeds = [record[2] for record in records[1:] if record[0] == "put"]
    hold(len(deeds) == len(records) - 1, "a chair wrote other than its vote and its puts")
    hold(deeds[0] == ("first",) and deeds.count(("first",)) == 1, "a chair's first put alone is the first one")
    return Row(row.stand, row.entries + tuple([(term, deed) for deed in deeds]))


class Term:
    # A term in which a house is chair: its row ahead of the term and with all that it put, and what others wrote of it.
    def __init__(self, term, name, row, records):
        self.term = term
        self.name = name
        self.before = row
        self.whole = row_with_puts(row, name, term, records)
        self.voted = [name]
        self.accepted = {}

    def first_place(self):
        return self.before.last_place() + 1

    def is_own_vote(self, record):
        return record == ("vote", self.term, self.name, self.before.last_place(), self.before.last_term())

    def accept(self, name, place):
        self.accepted[name] = max(self.accepted.get(name, 0), place)

    def holders(self, place):
        return [self.name] + [name for name in self.accepted if self.accepted[name] >= place]

    def check_chair(self):
        hold(is_half(self.before.bench(), self.voted), "not more than half voted for a chair")
        for place in range(self.first_place(), self.whole.last_place() + 1):
            deed = self.whole.entry_at(place)[1]
            if deed[0] == "bench":
                self.check_bench_put(Row(self.whole.stand, self.whole.up_to(place - 1)), deed[1])

    def check_bench_put(self, ahead, bench):
        hold(is_step(ahead.bench(), bench), "a bench doesn't follow the one ahead of it")
        place = max(ahead.bench_place(), self.first_place())
        hold(is_half(ahead.bench(), self.holders(place)), "a bench was put too soon")

    def settled_entries(self):
        benches = []
        for place in range(self.whole.last_place(), self.before.last_place(), -1):
            benches.append(self.whole.bench_at(place))
            holders = self.holders(place)
            if any([is_half(bench, holders) for bench in benches]):
                return self.whole.up_to(place)
        return ()


def row_followed(row, name, records, seat):
    # seat is the term's Term, or None where none is chair in it.
    votes = 0
    is_ahead = True
    for record in records:
        if record[0] == "vote":
            votes += 1
            hold((row.last_term(), row.last_place()) <= (record[4], record[3]), "a vote for a row that is behind")
            if is_ahead and seat is not None and seat.is_own_vote(record):
                seat.voted.append(name)
        else:
            is_ahead = False
            hold(seat is not None and record[2] == seat.name, "rows or a stand of a house that is no chair")
            row = row_heard(row, record, seat.whole)
            seat.accept(name, record[3] + (len(record[5]) if record[0] == "rows" else 0))
    hold(votes <= 1, "two votes in one term")
    return row


def row_heard(row, record, whole):
    place = record[3]
    there = record[4]
    hold(whole.term_at(place) == there, "the chair's row has another term there")
    if record[0] == "rows":
        entries = record[5]
        hold(whole.between(place, place + len(entries)) == entries, "the chair's row has other entries there")
        hold(row.term_at(place) == there, "the house's row has another term there")
        return row.filled(place, there, entries)
    if row.term_at(place) == there:
        return row
    return Row(row.stand, whole.up_to(place))


def term_judged(rows, term, records):
    chair = chair_in(records)
    seat = None if chair is None else Term(term, chair, rows[chair], records[chair])
    for name in records:
        if name != chair:
            rows[name] = row_followed(rows[name], name, records[name], seat)
    if seat is None:
        return ()
    seat.check_chair()
    rows[chair] = seat.whole
    return ((term, seat.settled_entries()),)


def judged(bench, journals):
    check_journals(journals)
    rows = {}
    for name, records in journals:
        rows[name] = Row(first_stand(bench), ())
    terms = by_terms(journals)
    told = ()
    for term in sorted(terms):
        told = told + term_judged(rows, term, terms[term])
    return told
