"""What a house has written: all that is left to it where it falls."""

from chainhouse.rows import Row
from chainhouse.stands import first_stand


class Written:
    # Made of the tuple that it is told as: (term, vote, settled, stand, entries).
    def __init__(self, parts):
        self.term = parts[0]
        self.vote = parts[1]
        self.settled_place = parts[2]
        self.kept_row = Row(parts[3], parts[4])

    def told(self):
        return (self.term, self.vote, self.settled_place, self.kept_row.stand, self.kept_row.entries)

    def rise_to(self, term):
        self.term = term
        # A vote is given in one term alone.
        self.vote = None

    def vote_for(self, name):
        self.vote = name

    def settle_to(self, place):
        self.settled_place = place

    def keep_row(self, row):
        self.kept_row = row


def first_written(bench):
    return Written((0, None, 0, first_stand(bench), ()))
