"""Seats: one hand, the letters that it takes and those that it sends, round by round."""

from beatless.errors import NoRound
from beatless.ways import copied
from beatless.wholes import is_whole


class Seat:
    def __init__(self, web, way, program, rounds, hand):
        parent = way.parent_of(hand)
        self.web = web
        self.way = way
        self.program = program
        self.rounds = rounds
        self.me = hand
        self.near = web.neighbours(hand)
        self.above = [] if parent is None else [parent]
        self.below = way.children(hand)
        self.across = way.bridges_at(hand)
        # By round, and only of rounds that it has ended: behind mends some may lack in between.
        self.worths = {0: program.first_worth(hand, len(self.near))}
        self.pairs_heard = {}
        # By round, then by kind, from who sent it to its number: words and besides may come ahead of their round.
        self.mail = {}
        self.turn = 1
        self.awaited = 0
        self.did = {}

    def begin(self):
        return self.begin_round() + self.go_as_far_as_can_be()

    def take(self, letter):
        kind = letter[0]
        sender = letter[1]
        turn = letter[3]
        self.mail.setdefault(turn, {}).setdefault(kind, {}).update({sender: letter[4]})
        answer = [("got", self.me, sender, turn, None)] if kind == "word" else []
        return answer + self.go_as_far_as_can_be()

    def ended(self):
        return self.turn - 1

    def worth(self, turn):
        if not is_whole(turn) or turn not in self.worths:
            raise NoRound("the hand has no worth of such a round")
        return self.worths[turn]

    def heard(self, turn):
        if not is_whole(turn) or turn not in self.pairs_heard:
            raise NoRound("the hand has ended no such round")
        return list(self.pairs_heard[turn])

    def last_worth(self):
        return self.worths[max(self.worths)]

    def forget_behind(self, turn):
        self.worths = dict([(each, worth) for each, worth in self.worths.items() if each <= turn])
        self.pairs_heard = dict([(each, pairs) for each, pairs in self.pairs_heard.items() if each <= turn])
        self.turn = turn + 1

    def moved(self, web, way, turn):
        # The same hand in another web, ahead of all letters, as though it had just ended the round.
        seat = Seat(web, way, self.program, self.rounds, self.me)
        seat.worths = dict(self.worths)
        seat.pairs_heard = dict(self.pairs_heard)
        seat.turn = turn + 1
        return seat

    def twin(self):
        seat = self.moved(self.web, self.way, self.ended())
        seat.mail = copied(self.mail)
        seat.awaited = self.awaited
        seat.did = dict(self.did)
        return seat

    def come(self, kind):
        return self.mail.get(self.turn, {}).get(kind, {})

    def has_come(self, kind, many):
        return len(self.come(kind)) >= many

    def tell_each(self, kind, others):
        return [(kind, self.me, other, self.turn, None) for other in others]

    def begin_round(self):
        self.did = {}
        if self.turn > self.rounds:
            return []
        words = []
        for other in self.near:
            number = self.program.word_to(self.last_worth(), self.me, self.turn, len(self.near), other)
            if number is not None:
                words.append(("word", self.me, other, self.turn, number))
        self.awaited = len(words)
        return words

    def go_as_far_as_can_be(self):
        letters = []
        while self.turn <= self.rounds:
            letters.extend(self.tell_through())
            letters.extend(self.tell_all())
            letters.extend(self.tell_clear())
            if not self.is_let("go", "clear"):
                return letters
            letters.extend(self.tell_each("go", self.below))
            self.end_round()
            letters.extend(self.begin_round())
        return letters

    def is_let(self, kind, step):
        # What others hear from their parent a leader knows by its own step.
        return step in self.did if self.above == [] else self.has_come(kind, 1)

    def tell_through(self):
        if "through" in self.did or not self.has_come("got", self.awaited):
            return []
        if not self.has_come("through", len(self.below)):
            return []
        self.did["through"] = True
        return self.tell_each("through", self.above)

    def tell_all(self):
        if "all" in self.did or not self.is_let("all", "through"):
            return []
        self.did["all"] = True
        return self.tell_each("all", self.below) + self.tell_each("beside", self.across)

    def tell_clear(self):
        if "clear" in self.did or "all" not in self.did:
            return []
        if not self.has_come("beside", len(self.across)) or not self.has_come("clear", len(self.below)):
            return []
        self.did["clear"] = True
        return self.tell_each("clear", self.above)

    def end_round(self):
        pairs = sorted(self.come("word").items())
        numbers = [pair[1] for pair in pairs]
        worth = self.program.next_worth(self.last_worth(), self.me, self.turn, len(self.near), numbers)
        self.worths[self.turn] = worth
        self.pairs_heard[self.turn] = pairs
        # No letter of an ended round is asked for again.
        self.mail.pop(self.turn, None)
        self.turn += 1
