"""A house: it takes turns, hears letters, and is asked; each time it answers with the letters that it sends."""

from chainhouse.chairs import ask_heard, chair_turn, change_heard, got_heard, read_heard, took_heard
from chainhouse.followers import piece_heard, rows_heard
from chainhouse.letters import check_letter
from chainhouse.minds import Mind
from chainhouse.rows import Row
from chainhouse.voters import gave_heard, look_heard, saw_heard, vote_heard, voter_turn
from chainhouse.written import Written, first_written


class House:
    def __init__(self, name, wait, size, bench):
        self.name = name
        self.wait = wait
        self.size = size
        self.mind = Mind(name, wait, size, first_written(bench), [])

    def writes(self):
        return self.mind.kept.told()

    def comes_up(self, written):
        self.mind = Mind(self.name, self.wait, self.size, Written(written), [])

    def fall(self):
        # The journal's records are written, too: they stay.
        self.mind = Mind(self.name, self.wait, self.size, self.mind.kept, self.mind.records)

    def cut(self):
        self.mind.cut()

    def turn(self):
        if self.mind.is_chair():
            return chair_turn(self.mind)
        return voter_turn(self.mind)

    def hear(self, letter):
        check_letter(letter)
        return self.heard(letter)

    def heard(self, letter):
        if letter[0] == "look":
            return look_heard(self.mind, letter)
        if letter[3] > self.mind.kept.term:
            self.mind.rise_to(letter[3])
        if letter[0] in ("saw", "vote", "gave"):
            return self.vote_letter(letter)
        return self.chair_letter(letter)

    def vote_letter(self, letter):
        if letter[0] == "saw":
            return saw_heard(self.mind, letter)
        if letter[0] == "vote":
            return vote_heard(self.mind, letter)
        return gave_heard(self.mind, letter)

    def chair_letter(self, letter):
        if letter[0] == "rows":
            return rows_heard(self.mind, letter)
        if letter[0] == "piece":
            return piece_heard(self.mind, letter)
        if letter[0] == "took":
            return took_heard(self.mind, letter)
        return got_heard(self.mind, letter)

    def ask(self, asker, number, work):
        return ask_heard(self.mind, asker, number, work)

    def change(self, voters, learners):
        return change_heard(self.mind, voters, learners)

    def read(self, asker, number, key):
        return read_heard(self.mind, asker, number, key)

    def part(self):
        return self.mind.role

    def chair_known(self):
        return self.mind.known

    def settled(self):
        return self.mind.settled()

    def row(self):
        return Row(self.mind.row().stand, self.mind.row().entries)

    def table(self):
        return self.mind.board.twin()

    def taken_answers(self):
        taken = tuple(self.mind.given)
        self.mind.given.clear()
        return taken

    def taken_reads(self):
        taken = tuple(self.mind.found)
        self.mind.found.clear()
        return taken

    def taken_papers(self):
        taken = tuple(self.mind.shown)
        self.mind.shown.clear()
        return taken

    def journal(self):
        return tuple(self.mind.records)

    def twin(self):
        other = House(self.name, self.wait, self.size, self.mind.row().stand[2])
        other.mind = self.mind.twin()
        return other
