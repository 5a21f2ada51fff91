"""What falls, what is mended, and what is told behind it (points 4, 5, 22, 25 to 27)."""

import random
import unittest

from beatless.errors import Fallen, NoHand, NoLine, NoRound, NoWay
from beatless.halls import Hall
from beatless.plain import heard_by_pieces, plain_heard, worths_by_pieces
from beatless.programs import read_program
from beatless.ways import Way, by_clusters, by_neighbours, by_tree
from beatless.webs import Web
from samples import (
    NO_WHOLES, Refusing, all_lines, carry_all, chance_way, let_fall, path_web, programs, stand_of, unlet_ways,
)

GATHER = read_program("start me\nsend worth\nwhen 1\nreckon add worth sum")
SILENT = read_program("start me\nsend worth\nwhen 0\nreckon add worth round")
# The first worth tells how many lines there are, each later one how many there were and what was heard.
BY_LINES = read_program("start mod lines 100\nsend add worth me\nwhen lines\nreckon add worth add lines mod sum 1000")
TWO = Web([1, 2], [(1, 2)])
PATH = path_web([1, 2, 3])


def told_pieces(hall):
    return [(web.hands(), web.lines(), rounds) for web, rounds in hall.pieces()]


class Unchanged(Refusing):
    def refuse_at(self, hall, error, call, *values):
        """What is refused changes nothing."""
        ahead = stand_of(hall)
        self.refuse(error, call, *values)
        self.assertEqual(stand_of(hall), ahead)


class Falling(Unchanged):
    def test_letters_to_a_fallen_hand_are_lost(self):
        hall = Hall(PATH, by_neighbours(PATH), GATHER, 1)
        self.assertIsNone(hall.fall(2))
        words = [("word", 1, 2, 1, 1), ("word", 2, 1, 1, 2), ("word", 2, 3, 1, 2), ("word", 3, 2, 1, 3)]
        self.assertEqual(hall.road(), words)
        hall.carry(0)
        self.assertEqual(hall.road(), words[1:])
        # What it sent stands, and is taken and answered as ever.
        hall.carry(0)
        self.assertEqual(hall.road(), words[2:] + [("got", 1, 2, 1, None)])
        carry_all(hall)
        self.assertEqual([hall.ended(hand) for hand in (1, 2, 3)], [0, 0, 0])
        self.assertEqual((hall.sent("word", 1), hall.sent("got", 1), hall.sent("beside", 1)), (4, 2, 0))

    def test_letters_over_a_fallen_line_are_lost(self):
        hall = Hall(PATH, by_neighbours(PATH), GATHER, 1)
        self.assertIsNone(hall.cut(3, 2))
        carry_all(hall)
        # Both ways: neither word between 2 and 3 was got.
        self.assertEqual((hall.sent("word", 1), hall.sent("got", 1)), (4, 2))
        # 1 alone was through.
        self.assertEqual(hall.sent("beside", 1), 1)
        self.assertIs(hall.done(), False)

    def test_only_what_is_carried_behind_it_is_lost(self):
        hall = Hall(TWO, by_neighbours(TWO), GATHER, 1)
        hall.carry(0)
        hall.fall(2)
        self.assertEqual(hall.road(), [("word", 2, 1, 1, 2), ("got", 2, 1, 1, None)])
        carry_all(hall)
        self.assertEqual((hall.sent("got", 1), hall.sent("beside", 1)), (2, 1))

    def test_all_is_told_of_a_fallen_hand_as_ever(self):
        hall = Hall(TWO, by_neighbours(TWO), GATHER, 2)
        while hall.ended(1) < 1:
            hall.carry(0)
        ahead = stand_of(hall)
        hall.fall(1)
        hall.cut(1, 2)
        self.assertEqual(stand_of(hall), ahead)
        self.assertEqual((hall.ended(1), hall.worth(1, 1), hall.heard(1, 1)), (1, 3, [(2, 2)]))

    def test_done_counts_a_fallen_hand(self):
        hall = Hall(TWO, by_tree(TWO), SILENT, 1)
        for kind in ("through", "all", "clear"):
            self.assertEqual(hall.road()[0][0], kind)
            hall.carry(0)
        hall.fall(2)
        self.assertEqual([hall.ended(1), hall.ended(2), hall.done()], [1, 0, False])
        carry_all(hall)
        self.assertEqual([hall.ended(1), hall.ended(2), hall.done()], [1, 0, False])
        hall = Hall(TWO, by_tree(TWO), SILENT, 1)
        carry_all(hall)
        hall.fall(2)
        self.assertIs(hall.done(), True)

    def test_no_hand_of_anything_else(self):
        hall = Hall(TWO, by_neighbours(TWO), GATHER, 1)
        for hand in [0, 3, -1, 99] + NO_WHOLES:
            self.refuse_at(hall, NoHand, hall.fall, hand)

    def test_no_line_of_anything_else(self):
        hall = Hall(PATH, by_neighbours(PATH), GATHER, 1)
        for one, other in ((1, 3), (3, 1), (1, 1), (0, 1), (2, 4)):
            self.refuse_at(hall, NoLine, hall.cut, one, other)
        for value in NO_WHOLES:
            self.refuse_at(hall, NoLine, hall.cut, value, 2)
            self.refuse_at(hall, NoLine, hall.cut, 2, value)
            self.refuse_at(hall, NoLine, hall.cut, value, value)

    def test_fallen_already(self):
        hall = Hall(PATH, by_neighbours(PATH), GATHER, 1)
        hall.fall(2)
        self.refuse_at(hall, Fallen, hall.fall, 2)
        # A fallen hand's lines haven't fallen, nor have the hands of a fallen line.
        hall.cut(2, 1)
        for one, other in ((1, 2), (2, 1)):
            self.refuse_at(hall, Fallen, hall.cut, one, other)
        hall.fall(1)
        hall.cut(2, 3)
        self.refuse_at(hall, Fallen, hall.cut, 2, 3)
        self.refuse_at(hall, Fallen, hall.fall, 1)
        hall.fall(3)

    def test_by_names_of_arguments(self):
        hall = Hall(PATH, by_neighbours(PATH), GATHER, 1)
        hall.fall(hand=2)
        hall.cut(other=2, one=3)
        hall.mend(way=by_tree(TWO), web=TWO)
        self.assertIs(hall.web_now(), TWO)


class Mending(Unchanged):
    def test_no_hand_that_the_first_web_has_not(self):
        hall = Hall(TWO, by_tree(TWO), GATHER, 2)
        hall.carry(0)
        hall.fall(1)
        for web in (PATH, Web([0], []), Web([3], []), Web([1, 2, 99], [])):
            # Also where no way is let by: the hands are told first.
            for way in (by_tree(web), by_tree(TWO), None):
                self.refuse_at(hall, NoHand, hall.mend, web, way)
        self.refuse_at(hall, Fallen, hall.fall, 1)

    def test_no_way_that_is_not_let_by(self):
        hall = Hall(PATH, by_tree(PATH), GATHER, 2)
        hall.carry(0)
        hall.fall(3)
        hall.cut(1, 2)
        for web, way in unlet_ways():
            self.refuse_at(hall, NoWay, hall.mend, web, way)
        self.refuse_at(hall, Fallen, hall.fall, 3)
        self.refuse_at(hall, Fallen, hall.cut, 1, 2)
        while hall.road():
            hall.carry(0)
        self.assertIs(hall.done(), False)

    def test_ahead_of_the_first_round(self):
        hall = Hall(TWO, by_tree(TWO), GATHER, 2)
        hall.carry(0)
        hall.fall(2)
        way = by_neighbours(TWO)
        self.assertIsNone(hall.mend(TWO, way))
        self.assertEqual(stand_of(hall)[:-2], stand_of(Hall(TWO, way, GATHER, 2))[:-2])
        self.assertEqual(hall.sent("got", 1), 0)
        self.assertIs(hall.way_now(), way)
        self.assertEqual(hall.pieces(), [(TWO, 0), (TWO, 2)])
        # Nothing has fallen any more.
        carry_all(hall)
        self.assertIs(hall.done(), True)
        hall.fall(2)

    def test_lines_are_mended_too(self):
        hall = Hall(TWO, by_tree(TWO), GATHER, 2)
        hall.cut(1, 2)
        carry_all(hall)
        hall.mend(TWO, by_tree(TWO))
        carry_all(hall)
        self.assertEqual((hall.done(), hall.worth(1, 2)), (True, 6))
        hall.cut(1, 2)

    def test_who_was_ahead_goes_back(self):
        hall = Hall(TWO, by_tree(TWO), GATHER, 3)
        while hall.ended(1) < 2:
            hall.carry(0)
        self.assertEqual((hall.ended(1), hall.ended(2)), (2, 1))
        hall.mend(TWO, by_neighbours(TWO))
        self.assertEqual((hall.ended(1), hall.ended(2)), (1, 1))
        for hand in (1, 2):
            self.assertEqual((hall.worth(hand, 0), hall.worth(hand, 1)), (hand, 3))
            self.assertEqual(hall.heard(hand, 1), [(3 - hand, 3 - hand)])
            self.refuse_at(hall, NoRound, hall.worth, hand, 2)
            self.refuse_at(hall, NoRound, hall.heard, hand, 2)
        self.assertEqual(hall.road(), [("word", 1, 2, 2, 3), ("word", 2, 1, 2, 3)])
        self.assertEqual(hall.pieces(), [(TWO, 1), (TWO, 2)])
        self.assertEqual((hall.sent("word", 1), hall.sent("word", 2), hall.sent("through", 1)), (0, 2, 0))
        carry_all(hall)
        self.assertEqual((hall.done(), hall.worth(1, 3), hall.worth(2, 3)), (True, 12, 12))

    def test_a_hand_is_out_and_comes_back(self):
        hall = Hall(PATH, by_neighbours(PATH), GATHER, 4)
        # 1 and 3 end round 1; 2, in the middle, ends it last.
        while min(hall.ended(hand) for hand in (1, 2, 3)) < 1:
            hall.carry(0)
        ahead = {hand: hall.worth(hand, 1) for hand in (1, 2, 3)}
        self.assertEqual(ahead, {1: 3, 2: 6, 3: 5})
        two = Web([1, 3], [(1, 3)])
        hall.mend(two, by_tree(two))
        self.assertEqual(hall.pieces(), [(PATH, 1), (two, 3)])
        self.assertEqual(hall.road(), [("word", 1, 3, 2, 3), ("word", 3, 1, 2, 5)])
        self.assertEqual((hall.ended(2), hall.worth(2, 1), hall.heard(2, 1)), (1, 6, [(1, 1), (3, 3)]))
        self.refuse_at(hall, NoHand, hall.fall, 2)
        self.refuse_at(hall, NoLine, hall.cut, 1, 2)
        while min(hall.ended(1), hall.ended(3)) < 2:
            hall.carry(0)
        self.assertEqual(hall.ended(2), 1)
        self.refuse_at(hall, NoRound, hall.worth, 2, 2)
        hall.mend(PATH, by_tree(PATH))
        self.assertEqual(hall.pieces(), [(PATH, 1), (two, 1), (PATH, 2)])
        self.assertEqual([hall.ended(hand) for hand in (1, 2, 3)], [2, 2, 2])
        self.assertEqual((hall.worth(2, 0), hall.worth(2, 1)), (2, 6))
        self.refuse_at(hall, NoRound, hall.worth, 2, 2)
        self.refuse_at(hall, NoRound, hall.heard, 2, 2)
        # It goes on from the worth that it had last.
        self.assertEqual(hall.road(), [
            ("word", 1, 2, 3, 8), ("word", 2, 1, 3, 6), ("word", 2, 3, 3, 6), ("word", 3, 2, 3, 8),
        ])
        carry_all(hall)
        self.assertIs(hall.done(), True)
        self.assertEqual([hall.worth(hand, 3) for hand in (1, 2, 3)], [14, 22, 14])
        self.assertEqual(hall.heard(2, 3), [(1, 8), (3, 8)])
        self.refuse_at(hall, NoRound, hall.worth, 2, 2)
        self.refuse_at(hall, NoRound, hall.heard, 2, 2)

    def test_who_is_out_twice_stays_as_it_was(self):
        web = path_web([1, 2, 3])
        hall = Hall(web, by_tree(web), SILENT, 5)
        while min(hall.ended(hand) for hand in (1, 2, 3)) < 1:
            hall.carry(0)
        alone = Web([1], [])
        two = Web([1, 2], [(1, 2)])
        hall.mend(two, by_tree(two))
        while min(hall.ended(1), hall.ended(2)) < 3:
            hall.carry(0)
        hall.mend(alone, by_tree(alone))
        # 1, alone, ends all rounds at once; 2 went out behind round 3, 3 behind round 1.
        self.assertEqual([hall.ended(hand) for hand in (1, 2, 3)], [5, 3, 1])
        self.assertEqual((hall.done(), hall.pieces()), (True, [(web, 1), (two, 2), (alone, 2)]))
        hall.mend(web, by_tree(web))
        self.assertEqual([hall.ended(hand) for hand in (1, 2, 3)], [5, 5, 5])
        self.assertEqual((hall.done(), hall.pieces()), (True, [(web, 1), (two, 2), (alone, 2)]))
        self.assertEqual((hall.worth(3, 1), hall.worth(2, 3), hall.worth(1, 5)), (4, 8, 16))
        for hand, turn in ((3, 2), (3, 5), (2, 4), (2, 5), (1, 6)):
            self.refuse_at(hall, NoRound, hall.worth, hand, turn)
            self.refuse_at(hall, NoRound, hall.heard, hand, turn)

    def test_a_fallen_hand_counts_for_how_far_all_have_come(self):
        hall = Hall(PATH, by_tree(PATH), SILENT, 3)
        hall.fall(3)
        carry_all(hall)
        two = Web([1, 2], [(1, 2)])
        hall.mend(two, by_tree(two))
        self.assertEqual(hall.pieces(), [(PATH, 0), (two, 3)])
        carry_all(hall)
        self.assertEqual(([hall.ended(hand) for hand in (1, 2, 3)], hall.done()), ([3, 3, 0], True))

    def test_who_goes_out_goes_back_too(self):
        hall = Hall(TWO, by_tree(TWO), SILENT, 2)
        while hall.ended(1) < 1:
            hall.carry(0)
        other = Web([2], [])
        hall.mend(other, by_tree(other))
        self.assertEqual((hall.ended(1), hall.ended(2), hall.pieces()), (0, 2, [(TWO, 0), (other, 2)]))
        self.refuse_at(hall, NoRound, hall.worth, 1, 1)
        self.refuse_at(hall, NoRound, hall.heard, 1, 1)
        self.assertEqual(hall.worth(1, 0), 1)

    def test_start_has_the_first_webs_lines(self):
        web = Web([1, 2, 3], [])
        hall = Hall(PATH, by_tree(PATH), BY_LINES, 1)
        hall.mend(web, by_tree(web))
        self.assertEqual([hall.worth(hand, 0) for hand in (1, 2, 3)], [1, 2, 1])
        # No lines, nothing heard: the worths stay.
        self.assertEqual([hall.worth(hand, 1) for hand in (1, 2, 3)], [1, 2, 1])

    def test_any_lines(self):
        web = Web([1, 2, 3], [(1, 3)])
        hall = Hall(PATH, by_tree(PATH), GATHER, 1)
        hall.mend(web, by_tree(web))
        self.assertEqual([letter[:3] for letter in hall.road()], [("word", 1, 3), ("word", 3, 1)])
        self.refuse_at(hall, NoLine, hall.cut, 1, 2)
        hall.cut(1, 3)

    def test_behind_all_rounds(self):
        for rounds in (0, 1, 2):
            hall = Hall(TWO, by_tree(TWO), GATHER, rounds)
            carry_all(hall)
            one = Web([1], [])
            hall.mend(one, by_tree(one))
            self.assertEqual((hall.pieces(), hall.road(), hall.done()), ([(TWO, rounds)], [], True))
            self.assertIs(hall.web_now(), one)
            self.assertEqual((hall.ended(1), hall.ended(2)), (rounds, rounds))
            self.refuse_at(hall, NoHand, hall.fall, 2)
            hall.fall(1)
            hall.mend(TWO, by_tree(TWO))
            self.assertEqual((hall.pieces(), hall.road(), hall.done()), ([(TWO, rounds)], [], True))
            self.assertEqual((hall.sent("word", rounds), hall.sent("word", rounds + 1)), (0, 0))

    def test_pieces_without_rounds_are_left_out(self):
        hall = Hall(PATH, by_tree(PATH), GATHER, 3)
        two = Web([1, 2], [(1, 2)])
        one = Web([3], [])
        hall.mend(two, by_tree(two))
        self.assertEqual(hall.pieces(), [(PATH, 0), (two, 3)])
        hall.carry(0)
        other = Web([2, 3], [(2, 3)])
        hall.mend(other, by_tree(other))
        self.assertEqual(hall.pieces(), [(PATH, 0), (other, 3)])
        while min(hall.ended(2), hall.ended(3)) < 2:
            hall.carry(0)
        hall.mend(two, by_tree(two))
        hall.mend(one, by_tree(one))
        self.assertEqual(hall.pieces(), [(PATH, 0), (other, 2), (one, 1)])
        self.assertEqual(hall.ended(3), 3)
        for web, same in zip([each[0] for each in hall.pieces()], (PATH, other, one)):
            self.assertIs(web, same)

    def test_pieces_told_are_a_new_list(self):
        hall = Hall(TWO, by_tree(TWO), GATHER, 3)
        told = hall.pieces()
        hall.mend(TWO, by_tree(TWO))
        self.assertEqual(told, [(TWO, 3)])
        hall.pieces().clear()
        hall.mend(TWO, by_tree(TWO))
        self.assertEqual(hall.pieces(), [(TWO, 0), (TWO, 3)])


class Model:
    """Points 26 and 27 in their own words: which webs ran which rounds, and what each hand has ended."""

    def __init__(self, web, rounds):
        self.web, self.rounds = web, rounds
        # For each round from 1 on the web that runs it.
        self.webs = [web] * rounds
        self.first = web
        self.ended = {hand: 0 for hand in web.hands()}

    def mend(self, hall, web):
        least = min(hall.ended(hand) for hand in self.web.hands())
        for hand in self.web.hands() + web.hands():
            self.ended[hand] = least
        self.webs = self.webs[:least] + [web] * (self.rounds - least)
        self.web = web

    def pieces(self):
        found = [(self.first, 0)]
        for web in self.webs:
            if web is found[-1][0]:
                found[-1] = (web, found[-1][1] + 1)
            else:
                found.append((web, 1))
        return found


def part_of(chance, hands):
    """A web of some of the hands, with lines of chance, and a way for it."""
    some = sorted(chance.sample(hands, chance.randint(1, len(hands))))
    lines = [line for line in all_lines(some) if chance.randrange(3)]
    web = Web(some, lines)
    ways = [by_neighbours(web), by_tree(web), by_clusters(web, chance.randint(1, 3)), Way(*chance_way(chance, web))]
    return web, chance.choice(ways)


class ManyMends(unittest.TestCase):
    def check(self, hall, model, program):
        self.assertEqual(told_pieces(hall), [(web.hands(), web.lines(), many) for web, many in model.pieces()])
        worths = worths_by_pieces(hall.pieces(), program)
        heard = heard_by_pieces(hall.pieces(), program)
        for hand in model.first.hands():
            ended = hall.ended(hand)
            if not model.web.has_hand(hand):
                self.assertEqual(ended, model.ended[hand])
            for turn in range(-1, model.rounds + 2):
                for tell, told, known in (
                    (hall.worth, worths, turn == 0), (hall.heard, [None] + heard, False),
                ):
                    known = known or (1 <= turn <= ended and model.webs[turn - 1].has_hand(hand))
                    if known:
                        self.assertEqual(tell(hand, turn), told[turn][hand])
                    else:
                        self.assertRaises(NoRound, tell, hand, turn)

    def carry_some(self, hall, chance):
        """Till so many rounds more have ended, or no letter is left; then a few letters more."""
        hands = hall.web_now().hands()
        goal = min(hall.ended(hand) for hand in hands) + chance.randint(0, 3)
        more = chance.randint(0, 60)
        while hall.road() and more > 0:
            if chance.randrange(200) == 0:
                let_fall(hall, chance)
            hall.carry(chance.randrange(len(hall.road())))
            more -= min(hall.ended(hand) for hand in hands) >= goal

    def test_worths_and_heard_are_those_of_the_pieces(self):
        chance = random.Random(26)
        several = 0
        back = 0
        for many in list(range(1, 13)) * 12:
            hands = sorted(chance.sample(range(100), many))
            web = Web(hands, [line for line in all_lines(hands) if chance.randrange(2)])
            program = chance.choice(programs() + [BY_LINES])
            rounds = chance.choice((0, 1, 3, 10, 20, 40))
            hall = Hall(web, Way(*chance_way(chance, web)), program, rounds)
            model = Model(web, rounds)
            out = {}
            for mend in range(chance.randint(1, 8)):
                self.carry_some(hall, chance)
                new, way = part_of(chance, hands)
                model.mend(hall, new)
                hall.mend(new, way)
                self.check(hall, model, program)
                self.assertIs(hall.web_now(), new)
                self.assertIs(hall.way_now(), way)
                back += any(hand in out and new.has_hand(hand) and hall.ended(hand) > out[hand] for hand in hands)
                out = {hand: hall.ended(hand) for hand in hands if not new.has_hand(hand)}
            if chance.randrange(2):
                carry_all(hall, chance.randrange)
                self.assertIs(hall.done(), True)
                self.check_counts(hall, program)
            else:
                self.carry_some(hall, chance)
            self.check(hall, model, program)
            several += len(hall.pieces()) > 3
        # These runs looked at what they are to look at.
        self.assertGreater(several, 10)
        self.assertGreater(back, 10)

    def check_counts(self, hall, program):
        """Point 22 behind a mend: rounds begun since have their numbers, others 0."""
        web, way = hall.web_now(), hall.way_now()
        heard = heard_by_pieces(hall.pieces(), program)
        since = len(heard) + 1
        if hall.pieces()[-1][0] is web and hall.pieces()[-1][1]:
            since -= hall.pieces()[-1][1]
        below = len([hand for hand in web.hands() if way.parent_of(hand) is not None])
        for turn in range(1, len(heard) + 1):
            words = sum(len(pairs) for pairs in heard[turn - 1].values())
            expected = [words, words, below, below, below, below, 2 * len(way.all_bridges())]
            told = [hall.sent(kind, turn) for kind in ("word", "got", "through", "all", "clear", "go", "beside")]
            self.assertEqual(told, expected if turn >= since else [0] * 7)

    def test_twelve_hands_forty_rounds_and_five_thousand_deeds(self):
        chance = random.Random(5000)
        hands = list(range(12))
        web = Web(hands, all_lines(hands))
        hall = Hall(web, by_neighbours(web), GATHER, 40)
        model = Model(web, 40)
        deeds = 0
        while deeds < 5000:
            new, way = (web, by_tree(web)) if chance.randrange(2) else part_of(chance, hands)
            model.mend(hall, new)
            hall.mend(new, way)
            deeds += 1
            for letter in range(chance.randint(100, 400)):
                if hall.road() and deeds < 5000:
                    hall.carry(chance.randrange(len(hall.road())))
                    deeds += 1
            if hall.done() or deeds >= 5000:
                self.check(hall, model, GATHER)
                hall = Hall(web, by_neighbours(web), GATHER, 40)
                model = Model(web, 40)

    def test_counts_as_the_plain_run_over_one_web(self):
        # A mend with the same web: the rounds before it count no more, those behind it as the plain run has them.
        program = programs()[1]
        hall = Hall(PATH, by_tree(PATH), program, 4)
        while min(hall.ended(hand) for hand in (1, 2, 3)) < 2:
            hall.carry(0)
        hall.mend(PATH, by_neighbours(PATH))
        carry_all(hall)
        plain = [sum(len(pairs) for pairs in heard.values()) for heard in plain_heard(PATH, program, 4)]
        self.assertEqual([hall.sent("word", turn) for turn in (1, 2, 3, 4)], [0, 0] + plain[2:])
        self.assertEqual([hall.sent("beside", turn) for turn in (1, 2, 3, 4)], [0, 0, 4, 4])


if __name__ == "__main__":
    unittest.main()
