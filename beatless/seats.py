"""Seats: one hand, the letters that it takes and those that it sends, round by round."""

from beatless.errors import NoRound
from beatless.wholes import is_whole


class Seat:
    def __init__(self, web, way, program, rounds, hand):
        parent = way.parent_of(hand)
        self.program = program
        self.rounds = rounds
        self.me = hand
        self.near = web.neighbours(hand)
        self.above = [] if parent is None else [parent]
        self.below = way.children(hand)
        self.across = way.bridges_at(hand)
        self.worths = [program.first_worth(hand, len(self.near))]
        # By round and kind, from who sent it to its number: words and besides may come ahead of their round.
        self.mail = {}
        self.turn = 1
        self.awaited = 0
        self.did = {}

    def begin(self):
        return self.begin_round() + self.go_as_far_as_can_be()

    def take(self, letter):
        kind = letter[0]
        sender = letter[1]
        turn = letter[3]
        self.mail.setdefault((turn, kind), {}).update({sender: letter[4]})
        answer = [("got", self.me, sender, turn, None)] if kind == "word" else []
        return answer + self.go_as_far_as_can_be()

    def ended(self):
        return self.turn - 1

    def worth(self, turn):
        if not is_whole(turn) or turn < 0 or turn > self.ended():
            raise NoRound("the hand has no worth of such a round")
        return self.worths[turn]

    def heard(self, turn):
        if not is_whole(turn) or turn < 1 or turn > self.ended():
            raise NoRound("the hand has not ended such a round")
        return sorted(self.come(turn, "word").items())

    def come(self, turn, kind):
        return self.mail.get((turn, kind), {})

    def has_come(self, kind, many):
        return len(self.come(self.turn, kind)) >= many

    def tell_each(self, kind, others):
        return [(kind, self.me, other, self.turn, None) for other in others]

    def begin_round(self):
        self.did = {}
        if self.turn > self.rounds:
            return []
        words = []
        for other in self.near:
            number = self.program.word_to(self.worths[-1], self.me, self.turn, len(self.near), other)
            if number is not None:
                words.append(("word", self.me, other, self.turn, number))
        self.awaited = len(words)
        return words

    def go_as_far_as_can_be(self):
        letters = []
        while self.turn <= self.rounds:
            letters.extend(self.tell_through())
            letters.extend(self.tell_all())
            letters.extend(self.tell_clear())
            if not self.is_let("go", "clear"):
                return letters
            letters.extend(self.tell_each("go", self.below))
            self.end_round()
            letters.extend(self.begin_round())
        return letters

    def is_let(self, kind, step):
        # What others hear from their parent a leader knows by its own step.
        return step in self.did if self.above == [] else self.has_come(kind, 1)

    def tell_through(self):
        if "through" in self.did or not self.has_come("got", self.awaited):
            return []
        if not self.has_come("through", len(self.below)):
            return []
        self.did["through"] = True
        return self.tell_each("through", self.above)

    def tell_all(self):
        if "all" in self.did or not self.is_let("all", "through"):
            return []
        self.did["all"] = True
        return self.tell_each("all", self.below) + self.tell_each("beside", self.across)

    def tell_clear(self):
        if "clear" in self.did or "all" not in self.did:
            return []
        if not self.has_come("beside", len(self.across)) or not self.has_come("clear", len(self.below)):
            return []
        self.did["clear"] = True
        return self.tell_each("clear", self.above)

    def end_round(self):
        numbers = list(self.come(self.turn, "word").values())
        worth = self.program.next_worth(self.worths[-1], self.me, self.turn, len(self.near), numbers)
        self.worths.append(worth)
        self.turn += 1
