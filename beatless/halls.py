"""Halls: all hands of a web and the road of their letters; what falls, and what is mended."""

from beatless.errors import Fallen, NoHand, NoLetter, NoLine
from beatless.seats import Seat
from beatless.ways import refuse_unlet
from beatless.wholes import is_whole


def line_between(one, other):
    return (min(one, other), max(one, other))


def pieces_cut_off(pieces, rounds):
    kept = []
    left = rounds
    for web, many in pieces:
        here = min(many, left)
        left -= here
        # The first web tells the hands and their first worths, so that it stays even without rounds.
        if here > 0 or kept == []:
            kept.append((web, here))
    return kept


class Hall:
    def __init__(self, web, way, program, rounds):
        refuse_unlet(web, way)
        self.first_web = web
        self.rounds = rounds
        self.web = web
        self.way = way
        self.own_pieces = [(web, rounds)]
        self.seats = dict([(hand, Seat(web, way, program, rounds, hand)) for hand in web.hands()])
        self.begin_anew()

    def begin_anew(self):
        self.letters = []
        self.counts = {}
        self.fallen_hands = {}
        self.fallen_lines = {}
        for hand in self.web.hands():
            self.put(self.seats[hand].begin())

    def put(self, letters):
        self.letters.extend(letters)
        for letter in letters:
            key = (letter[0], letter[3])
            self.counts[key] = self.counts.get(key, 0) + 1

    def road(self):
        return list(self.letters)

    def carry(self, number):
        if not is_whole(number) or number < 0 or number >= len(self.letters):
            raise NoLetter("no letter of such a number is on the road")
        letter = self.letters.pop(number)
        if not self.is_lost(letter):
            self.put(self.seats[letter[2]].take(letter))

    def is_lost(self, letter):
        return letter[2] in self.fallen_hands or line_between(letter[1], letter[2]) in self.fallen_lines

    def seat_of(self, hand):
        if not self.first_web.has_hand(hand):
            raise NoHand("the first web has no such hand")
        return self.seats[hand]

    def ended(self, hand):
        return self.seat_of(hand).ended()

    def worth(self, hand, turn):
        return self.seat_of(hand).worth(turn)

    def heard(self, hand, turn):
        return self.seat_of(hand).heard(turn)

    def done(self):
        return self.least_ended() == self.rounds

    def least_ended(self):
        return min([self.seats[hand].ended() for hand in self.web.hands()])

    def web_now(self):
        return self.web

    def way_now(self):
        return self.way

    def sent(self, kind, turn):
        if not isinstance(kind, str) or not is_whole(turn):
            return 0
        return self.counts.get((kind, turn), 0)

    def fall(self, hand):
        if not self.web.has_hand(hand):
            raise NoHand("the web has no such hand")
        if hand in self.fallen_hands:
            raise Fallen("the hand has fallen already")
        self.fallen_hands[hand] = True

    def cut(self, one, other):
        if not self.web.has_line(one, other):
            raise NoLine("the web has no such line")
        line = line_between(one, other)
        if line in self.fallen_lines:
            raise Fallen("the line has fallen already")
        self.fallen_lines[line] = True

    def mend(self, web, way):
        for hand in web.hands():
            if not self.first_web.has_hand(hand):
                raise NoHand("the first web has no such hand")
        refuse_unlet(web, way)
        ended = self.least_ended()
        # Hands that the new web hasn't forget too what they did beyond the others.
        for hand in self.web.hands():
            self.seats[hand].forget_behind(ended)
        for hand in web.hands():
            self.seats[hand] = self.seats[hand].moved(web, way, ended)
        self.web = web
        self.way = way
        self.own_pieces = pieces_cut_off(self.own_pieces, ended)
        if ended < self.rounds:
            self.own_pieces.append((web, self.rounds - ended))
        self.begin_anew()

    def pieces(self):
        return list(self.own_pieces)
