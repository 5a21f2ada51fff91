"""Halls: the road, what is told of hands, and how many letters were sent (points 4, 5, 20 to 22)."""

import collections
import random
import unittest

from beatless.errors import NoHand, NoLetter, NoRound, NoWay
from beatless.halls import Hall
from beatless.plain import plain_heard, plain_worths
from beatless.programs import read_program
from beatless.ways import Way, by_neighbours, by_tree
from beatless.webs import Web
from samples import (
    ANYTHING, NO_WHOLES, Refusing, Table, all_lines, carry_all, chance_way, let_fall, path_web, some_settings,
    some_webs, stand_of, unlet_ways,
)

GATHER = read_program("start me\nsend worth\nwhen 1\nreckon add worth sum")
SILENT = read_program("start me\nsend worth\nwhen 0\nreckon add worth round")
TWO = Web([1, 2], [(1, 2)])
KINDS = ("word", "got", "through", "all", "beside", "clear", "go")
# How the next letter is chosen of so many.
ORDERS = (lambda many: 0, lambda many: many - 1, lambda many: many // 2)


class Road(Refusing):
    def test_all_hands_begin_by_their_numbers(self):
        web = Web([1, 4, 7, 9], [(4, 9), (1, 4), (4, 7)])
        hall = Hall(web, by_neighbours(web), GATHER, 2)
        self.assertEqual(hall.road(), [
            ("word", 1, 4, 1, 1), ("word", 4, 1, 1, 4), ("word", 4, 7, 1, 4), ("word", 4, 9, 1, 4),
            ("word", 7, 4, 1, 7), ("word", 9, 4, 1, 9),
        ])
        hall = Hall(web, by_neighbours(web), SILENT, 2)
        self.assertEqual([letter[:3] for letter in hall.road()], [
            ("beside", 1, 4), ("beside", 4, 1), ("beside", 4, 7), ("beside", 4, 9), ("beside", 7, 4), ("beside", 9, 4),
        ])

    def test_letter_by_letter(self):
        hall = Hall(TWO, by_tree(TWO), GATHER, 1)
        self.assertEqual(hall.road(), [("word", 1, 2, 1, 1), ("word", 2, 1, 1, 2)])
        self.assertIsNone(hall.carry(1))
        self.assertEqual(hall.road(), [("word", 1, 2, 1, 1), ("got", 1, 2, 1, None)])
        hall.carry(0)
        self.assertEqual(hall.road(), [("got", 1, 2, 1, None), ("got", 2, 1, 1, None)])
        hall.carry(0)
        self.assertEqual(hall.road(), [("got", 2, 1, 1, None), ("through", 2, 1, 1, None)])
        hall.carry(1)
        self.assertEqual(hall.road(), [("got", 2, 1, 1, None)])
        hall.carry(0)
        self.assertEqual(hall.road(), [("all", 1, 2, 1, None)])
        hall.carry(0)
        self.assertEqual(hall.road(), [("clear", 2, 1, 1, None)])
        self.assertEqual((hall.ended(1), hall.ended(2), hall.done()), (0, 0, False))
        hall.carry(0)
        self.assertEqual(hall.road(), [("go", 1, 2, 1, None)])
        self.assertEqual((hall.ended(1), hall.ended(2), hall.done()), (1, 0, False))
        self.assertEqual((hall.worth(1, 1), hall.heard(1, 1)), (3, [(2, 2)]))
        hall.carry(0)
        self.assertEqual((hall.road(), hall.ended(2), hall.done()), ([], 1, True))
        self.assertEqual((hall.worth(2, 1), hall.heard(2, 1)), (3, [(1, 1)]))

    def test_each_number_carries_its_own_letter(self):
        web = Web([0, 3, 5], all_lines([0, 3, 5]))
        for make in (by_neighbours, by_tree):
            road = Hall(web, make(web), GATHER, 2).road()
            for number, letter in enumerate(road):
                hall = Hall(web, make(web), GATHER, 2)
                hall.carry(number)
                answer = ("got", letter[2], letter[1], 1, None)
                self.assertEqual(hall.road(), road[:number] + road[number + 1:] + [answer])

    def test_the_road_is_that_of_the_hands_one_by_one(self):
        for web, way, program, rounds, chance in some_settings(20):
            hall = Hall(web, way, program, rounds)
            table = Table(web, way, program, rounds)
            while table.road:
                self.assertEqual(hall.road(), table.road)
                number = chance.randrange(len(table.road))
                table.carry(number)
                hall.carry(number)
            self.assertEqual(hall.road(), [])

    def test_no_letter_of_anything_else(self):
        hall = Hall(TWO, by_neighbours(TWO), GATHER, 2)
        hall.carry(0)
        ahead = stand_of(hall)
        wrong = [2, 3, -1, -2, -3, 10 ** 20, -10 ** 20] + NO_WHOLES
        self.assertEqual(len(hall.road()), 2)
        for number in wrong:
            self.refuse(NoLetter, hall.carry, number)
        self.assertEqual(stand_of(hall), ahead)

    def test_no_letter_where_the_road_is_empty(self):
        for hall in (Hall(TWO, by_tree(TWO), GATHER, 0), Hall(Web([7], []), by_tree(Web([7], [])), GATHER, 3)):
            for number in (0, 1, -1, False, None):
                self.refuse(NoLetter, hall.carry, number)

    def test_0_rounds(self):
        for hands, lines in some_webs():
            web = Web(hands, lines)
            for make in (by_neighbours, by_tree):
                hall = Hall(web, make(web), GATHER, 0)
                self.assertEqual((hall.road(), hall.done()), ([], True))
                for hand in hands:
                    self.assertEqual((hall.ended(hand), hall.worth(hand, 0)), (0, hand))
                    self.refuse(NoRound, hall.worth, hand, 1)
                    self.refuse(NoRound, hall.heard, hand, 1)

    def test_a_hand_alone(self):
        web = Web([7], [])
        for rounds in (1, 2, 40):
            hall = Hall(web, by_tree(web), SILENT, rounds)
            self.assertEqual((hall.road(), hall.ended(7), hall.done()), ([], rounds, True))
            self.assertEqual(hall.worth(7, rounds), 7 + rounds * (rounds + 1) // 2)
            self.assertEqual(hall.heard(7, rounds), [])

    def test_hands_alone_beside_others_have_ended_at_once(self):
        web = Web([1, 2, 7], [(1, 2)])
        hall = Hall(web, by_neighbours(web), GATHER, 5)
        self.assertEqual([hall.ended(hand) for hand in (1, 2, 7)], [0, 0, 5])
        self.assertIs(hall.done(), False)


class Ways(Refusing):
    def test_no_way_that_is_not_let_by(self):
        for web, way in unlet_ways():
            for rounds in (0, 1, 3):
                self.refuse(NoWay, Hall, web, way, GATHER, rounds)

    def test_the_very_web_and_way_are_told(self):
        way = by_tree(TWO)
        hall = Hall(TWO, way, GATHER, 1)
        carry_all(hall, ORDERS[0])
        self.assertIs(hall.web_now(), TWO)
        self.assertIs(hall.way_now(), way)


class Telling(Refusing):
    def test_no_hand_of_anything_else(self):
        hall = Hall(TWO, by_tree(TWO), GATHER, 1)
        carry_all(hall, ORDERS[0])
        for hand in [0, 3, -1, 99, 10 ** 20] + NO_WHOLES:
            self.refuse(NoHand, hall.ended, hand)
            # The hand is told first, whatever the round is.
            for turn in (0, 1, 2, None, []):
                self.refuse(NoHand, hall.worth, hand, turn)
                self.refuse(NoHand, hall.heard, hand, turn)

    def test_no_round_of_anything_else(self):
        hall = Hall(TWO, by_neighbours(TWO), GATHER, 2)
        ended = {1: 0, 2: 0}
        while True:
            for hand in (1, 2):
                for turn in NO_WHOLES + list(range(hall.ended(hand) + 1, 44)) + [-1, -2, 10 ** 20]:
                    self.refuse(NoRound, hall.worth, hand, turn)
                    self.refuse(NoRound, hall.heard, hand, turn)
                self.refuse(NoRound, hall.heard, hand, 0)
                self.assertGreaterEqual(hall.ended(hand), ended[hand])
                ended[hand] = hall.ended(hand)
            if not hall.road():
                break
            hall.carry(0)
        self.assertEqual(ended, {1: 2, 2: 2})

    def test_done_asks_for_all_hands(self):
        web = path_web([1, 2, 3])
        hall = Hall(web, by_tree(web), SILENT, 1)
        # through 3 to 2, 2 to 1, all 1 to 2, 2 to 3, clear 3 to 2, 2 to 1, go 1 to 2, 2 to 3.
        for ended in ([0, 0, 0],) * 6 + ([1, 0, 0], [1, 1, 0], [1, 1, 1]):
            self.assertEqual([hall.ended(hand) for hand in (1, 2, 3)], ended)
            self.assertIs(hall.done(), ended == [1, 1, 1])
            if hall.road():
                hall.carry(0)

    def test_by_names_of_arguments(self):
        hall = Hall(rounds=1, program=GATHER, way=by_neighbours(TWO), web=TWO)
        while hall.road():
            hall.carry(number=0)
        self.assertEqual((hall.ended(hand=2), hall.worth(turn=1, hand=2), hall.heard(turn=1, hand=2)), (1, 3, [(1, 1)]))
        self.assertEqual(hall.sent(turn=1, kind="beside"), 2)

    def test_each_list_told_is_a_new_one(self):
        hall = Hall(TWO, by_neighbours(TWO), GATHER, 2)
        hall.road().clear()
        self.assertEqual(len(hall.road()), 2)
        hall.road().append("more")
        carry_all(hall, ORDERS[0])
        hall.heard(1, 1).clear()
        hall.heard(1, 2).append("more")
        self.assertEqual((hall.heard(1, 1), hall.heard(1, 2)), ([(2, 2)], [(2, 3)]))
        hall.pieces().clear()
        self.assertEqual(hall.pieces(), [(TWO, 2)])

    def test_halls_share_nothing(self):
        way = by_neighbours(TWO)
        one = Hall(TWO, way, GATHER, 2)
        other = Hall(TWO, way, GATHER, 2)
        ahead = stand_of(other)
        one.cut(1, 2)
        one.fall(1)
        carry_all(one, ORDERS[0])
        self.assertEqual(stand_of(other), ahead)
        carry_all(other, ORDERS[0])
        self.assertIs(other.done(), True)


class AsThePlainRun(unittest.TestCase):
    def check_ended(self, hall, worths, heard):
        for hand in hall.web_now().hands():
            for turn in range(hall.ended(hand) + 1):
                self.assertEqual(hall.worth(hand, turn), worths[turn][hand])
            for turn in range(1, hall.ended(hand) + 1):
                self.assertEqual(hall.heard(hand, turn), heard[turn - 1][hand])

    def test_in_many_orders(self):
        for web, way, program, rounds, chance in some_settings(20):
            worths = plain_worths(web, program, rounds)
            heard = plain_heard(web, program, rounds)
            for choose in ORDERS + (chance.randrange, chance.randrange):
                hall = Hall(web, way, program, rounds)
                while hall.road():
                    # What stands in between is looked at now and then, and always at the end.
                    if chance.randrange(20) == 0:
                        self.check_ended(hall, worths, heard)
                    hall.carry(choose(len(hall.road())))
                self.check_ended(hall, worths, heard)
                self.assertIs(hall.done(), True)
                self.assertEqual([hall.ended(hand) for hand in web.hands()], [rounds] * len(web.hands()))

    def test_one_hand_is_starved_as_long_as_can_be(self):
        for web, way, program, rounds, chance in some_settings(20):
            starved = chance.choice(web.hands())
            hall = Hall(web, way, program, rounds)
            while hall.road():
                others = [at for at, letter in enumerate(hall.road()) if letter[2] != starved]
                hall.carry(chance.choice(others) if others else 0)
            self.check_ended(hall, plain_worths(web, program, rounds), plain_heard(web, program, rounds))
            self.assertIs(hall.done(), True)

    def test_whatever_fell(self):
        for web, way, program, rounds, chance in some_settings(20):
            hall = Hall(web, way, program, rounds)
            while hall.road():
                if chance.randrange(12) == 0:
                    let_fall(hall, chance)
                hall.carry(chance.randrange(len(hall.road())))
            self.check_ended(hall, plain_worths(web, program, rounds), plain_heard(web, program, rounds))

    def test_twelve_hands_and_forty_rounds(self):
        web = Web(list(range(12)), all_lines(range(12)))
        chance = random.Random(12)
        for way in (by_neighbours(web), by_tree(web), Way(*chance_way(chance, web))):
            hall = Hall(web, way, GATHER, 40)
            carry_all(hall, chance.randrange)
            self.check_ended(hall, plain_worths(web, GATHER, 40), plain_heard(web, GATHER, 40))
            self.assertIs(hall.done(), True)


class Counts(unittest.TestCase):
    def test_as_many_as_told(self):
        for web, way, program, rounds, chance in some_settings(20):
            hall = Hall(web, way, program, rounds)
            carry_all(hall, chance.randrange)
            below = len([hand for hand in web.hands() if way.parent_of(hand) is not None])
            for turn, heard in enumerate(plain_heard(web, program, rounds), start=1):
                words = sum(len(pairs) for pairs in heard.values())
                self.assertEqual([hall.sent(kind, turn) for kind in KINDS], [
                    words, words, below, below, 2 * len(way.all_bridges()), below, below,
                ])

    def test_letter_by_letter(self):
        for web, way, program, rounds, chance in some_settings(20):
            hall = Hall(web, way, program, rounds)
            counts = collections.Counter((letter[0], letter[3]) for letter in hall.road())
            while hall.road():
                number = chance.randrange(len(hall.road()))
                left = len(hall.road()) - 1
                hall.carry(number)
                counts.update((letter[0], letter[3]) for letter in hall.road()[left:])
                for letter in hall.road()[left:]:
                    self.assertEqual(hall.sent(letter[0], letter[3]), counts[letter[0], letter[3]])
            for kind in KINDS:
                for turn in range(rounds + 3):
                    self.assertEqual(hall.sent(kind, turn), counts[kind, turn])

    def test_what_is_lost_was_sent(self):
        hall = Hall(TWO, by_neighbours(TWO), GATHER, 1)
        hall.fall(2)
        hall.carry(0)
        self.assertEqual((hall.sent("word", 1), hall.sent("got", 1)), (2, 0))

    def test_0_of_anything_else(self):
        hall = Hall(TWO, by_neighbours(TWO), GATHER, 1)
        carry_all(hall, ORDERS[0])
        self.assertEqual(hall.sent("word", 1), 2)
        for kind in ANYTHING + ["Word", "words", " word", "beat"]:
            for turn in (1, True, None, []):
                self.assertEqual(hall.sent(kind, turn), 0)
        for turn in [0, 2, -1, 41] + NO_WHOLES:
            for kind in KINDS:
                told = hall.sent(kind, turn)
                self.assertEqual(told, 0)
                self.assertIs(type(told), int)


if __name__ == "__main__":
    unittest.main()
