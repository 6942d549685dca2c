"""What a house has in mind: what it has written, and all that is lost where it falls."""

from chainhouse.tables import Table
from chainhouse.written import Written


def asks_done(table, entries):
    # Told of each ask: (asker, number, word, answer), the word and the answer as the table tells them.
    told = []
    for entry in entries:
        deed = entry[1]
        if deed[0] == "ask":
            told.append((deed[1], deed[2]) + table.does(deed[1], deed[2], deed[3]))
    return tuple(told)


def table_from(kept):
    row = kept.kept_row
    table = Table(row.stand[3], row.stand[4])
    asks_done(table, row.up_to(kept.settled_place))
    return table


class Mind:
    # Made from what is written alone, as where a house comes up; the journal's records are handed in as they go on.
    def __init__(self, name, wait, size, kept, records):
        self.name = name
        self.wait = wait
        self.size = size
        self.kept = kept
        self.records = records
        self.board = table_from(kept)
        self.role = "plain"
        self.known = None
        self.quiet = 0
        self.yes = []
        self.sheets = {}
        self.seat = None
        self.given = []
        self.found = []
        self.shown = []

    def row(self):
        return self.kept.kept_row

    def settled(self):
        return self.kept.settled_place

    def is_chair(self):
        return self.role == "chair"

    def follow(self, chair):
        self.role = "plain"
        self.known = chair
        # What was noted as chair is gone, in whatever way the house ceases to be one.
        self.seat = None

    def rise_to(self, term):
        self.kept.rise_to(term)
        self.follow(None)

    def record(self, thing):
        self.records.append(thing)

    def vote_for(self, name, place, last):
        # A vote that is given again is written already.
        if self.kept.vote is None:
            self.kept.vote_for(name)
            self.record(("vote", self.kept.term, name, place, last))

    def settle_to(self, place):
        entries = self.row().between(self.settled(), place)
        self.kept.settle_to(place)
        return asks_done(self.board, entries)

    def stand_on(self, row):
        # The row's stand was sent: its table is the doing of all up to it.
        self.kept.keep_row(row)
        self.kept.settle_to(row.stand[0])
        self.board = Table(row.stand[3], row.stand[4])

    def cut(self):
        if self.settled() > self.row().stand[0]:
            self.kept.keep_row(self.row().cut(self.settled(), self.board))
            if self.is_chair():
                self.seat.noted.clear_lacking()

    def twin(self):
        other = Mind(self.name, self.wait, self.size, Written(self.kept.told()), list(self.records))
        other.role = self.role
        other.known = self.known
        other.quiet = self.quiet
        other.yes = list(self.yes)
        other.sheets = dict(self.sheets)
        other.seat = self.seat.twin() if self.is_chair() else None
        other.given = list(self.given)
        other.found = list(self.found)
        other.shown = list(self.shown)
        return other
