"""Lateness: when each hand ends each round (points 5, 23, 24)."""

import copy
import random
import unittest

from beatless.errors import NoWay
from beatless.plain import plain_heard
from beatless.programs import read_program
from beatless.times import ends, latest
from beatless.ways import Way, by_neighbours, by_tree
from beatless.webs import Web
from samples import Refusing, all_lines, chance_way, path_web, some_settings, unlet_ways

GATHER = read_program("start me\nsend worth\nwhen 1\nreckon add worth sum")
SILENT = read_program("start me\nsend worth\nwhen 0\nreckon add worth round")
TWO = Web([1, 2], [(1, 2)])
KINDS = ("word", "got", "through", "all", "beside", "clear", "go")


class Equations:
    """When things are done, each told by what it waits for (points 17 to 19), without any letter on any road."""

    def __init__(self, web, way, program, rounds, lates, rest):
        self.web, self.way, self.lates, self.rest = web, way, lates, rest
        self.heard = plain_heard(web, program, rounds)
        self.known = {}

    def at(self, what, hand, turn):
        key = (what, hand, turn)
        if key not in self.known:
            self.known[key] = getattr(self, what)(hand, turn)
        return self.known[key]

    def late(self, kind, one, other, turn):
        return self.lates.get((kind, one, other, turn), self.rest)

    def comes(self, kind, what, one, other, turn):
        return self.at(what, one, turn) + self.late(kind, one, other, turn)

    def begun(self, hand, turn):
        return self.at("ended", hand, turn - 1) if turn > 1 else 0

    def through(self, hand, turn):
        times = [self.at("begun", hand, turn)]
        for other in self.web.neighbours(hand):
            if hand in dict(self.heard[turn - 1][other]):
                times.append(self.comes("word", "begun", hand, other, turn) + self.late("got", other, hand, turn))
        return max(times + [self.comes("through", "through", each, hand, turn) for each in self.way.children(hand)])

    def all_known(self, hand, turn):
        above = self.way.parent_of(hand)
        return self.at("through", hand, turn) if above is None else self.comes("all", "all_known", above, hand, turn)

    def clear(self, hand, turn):
        times = [self.at("all_known", hand, turn)]
        times += [self.comes("beside", "all_known", each, hand, turn) for each in self.way.bridges_at(hand)]
        return max(times + [self.comes("clear", "clear", each, hand, turn) for each in self.way.children(hand)])

    def ended(self, hand, turn):
        above = self.way.parent_of(hand)
        return self.at("clear", hand, turn) if above is None else self.comes("go", "ended", above, hand, turn)

    def all_ends(self):
        turns = range(1, len(self.heard) + 1)
        return {(hand, turn): self.at("ended", hand, turn) for turn in turns for hand in self.web.hands()}


def chance_lates(chance, web, rounds, most):
    """Some letters of the web have their own lateness."""
    lates = {}
    for one, other in web.lines():
        for kind in KINDS:
            for turn in range(1, rounds + 1):
                if chance.randrange(3):
                    lates[(kind, one, other, turn)] = chance.randint(0, most)
                if chance.randrange(3):
                    lates[(kind, other, one, turn)] = chance.randint(0, most)
    return lates


class ByHand(Refusing):
    def test_two_hands_by_tree(self):
        # word, got, through, all, clear, go; the leader ends ahead of go.
        way = by_tree(TWO)
        self.assertEqual(ends(TWO, way, GATHER, 1, {}, 1), {(1, 1): 5, (2, 1): 6})
        self.assertEqual(ends(TWO, way, GATHER, 2, {}, 1), {(1, 1): 5, (2, 1): 6, (1, 2): 11, (2, 2): 12})
        self.assertEqual(ends(TWO, way, SILENT, 2, {}, 10), {(1, 1): 30, (2, 1): 40, (1, 2): 70, (2, 2): 80})
        lates = {("through", 2, 1, 1): 100, ("all", 1, 2, 1): 7, ("go", 1, 2, 1): 0, ("clear", 2, 1, 2): 1000}
        self.assertEqual(ends(TWO, way, GATHER, 2, lates, 1), {(1, 1): 110, (2, 1): 110, (1, 2): 1114, (2, 2): 1115})

    def test_two_hands_by_neighbours(self):
        way = by_neighbours(TWO)
        self.assertEqual(ends(TWO, way, GATHER, 2, {}, 1), {(1, 1): 3, (2, 1): 3, (1, 2): 6, (2, 2): 6})
        # 1's word is late: 2 waits for 1's beside; 2's own beside has come by then.
        self.assertEqual(ends(TWO, way, GATHER, 1, {("word", 1, 2, 1): 5}, 1), {(1, 1): 6, (2, 1): 7})
        # The same of its got, and of each beside.
        self.assertEqual(ends(TWO, way, GATHER, 1, {("got", 2, 1, 1): 5}, 1), {(1, 1): 6, (2, 1): 7})
        self.assertEqual(ends(TWO, way, GATHER, 1, {("beside", 2, 1, 1): 5}, 1), {(1, 1): 7, (2, 1): 3})

    def test_a_letter_may_pass_another(self):
        # go of round 1 is late, the word of round 2 comes ahead of it.
        lates = {("go", 1, 2, 1): 50}
        self.assertEqual(ends(TWO, by_tree(TWO), GATHER, 2, lates, 1), {(1, 1): 5, (2, 1): 55, (1, 2): 60, (2, 2): 61})

    def test_0_rounds_and_hands_alone(self):
        self.assertEqual(ends(TWO, by_tree(TWO), GATHER, 0, {}, 5), {})
        self.assertEqual(latest(TWO, by_tree(TWO), GATHER, 0, 5), {})
        web = Web([1, 2, 9], [(1, 2)])
        self.assertEqual(ends(web, by_neighbours(web), GATHER, 2, {}, 1), {
            (1, 1): 3, (2, 1): 3, (1, 2): 6, (2, 2): 6, (9, 1): 0, (9, 2): 0,
        })
        alone = Web([4], [])
        self.assertEqual(ends(alone, by_tree(alone), SILENT, 40, {}, 9), {(4, turn): 0 for turn in range(1, 41)})

    def test_no_lateness_at_all(self):
        for make in (by_neighbours, by_tree):
            told = ends(path_web([1, 2, 3]), make(path_web([1, 2, 3])), GATHER, 3, {}, 0)
            self.assertEqual(told, {(hand, turn): 0 for hand in (1, 2, 3) for turn in (1, 2, 3)})

    def test_lateness_of_twenty_figures(self):
        most = 10 ** 20 - 1
        self.assertEqual(latest(TWO, by_neighbours(TWO), GATHER, 1, most), {(1, 1): 3 * most, (2, 1): 3 * most})
        lates = {("beside", 1, 2, 1): most}
        self.assertEqual(ends(TWO, by_neighbours(TWO), GATHER, 1, lates, 0), {(1, 1): 0, (2, 1): most})

    def test_other_keys_play_no_part(self):
        others = {
            (): 9, "word": 9, None: 9, 1: 9, ("word",): 9, ("word", 1, 2): 9, ("word", 1, 2, 1, 1): 9,
            ("word", 1, 2, 1, None): 9, ("word", 1, 2, 2): 9, ("word", 1, 2, 0): 9, ("word", 1, 3, 1): 9,
            ("word", 1, 1, 1): 9, ("through", 1, 2, 1): 9, ("all", 1, 2, 1): 9, ("beat", 1, 2, 1): 9, (1, 2, 1): 9,
            ("word", True, 2, 1): 9, ("word", 2, 1, True): 9, ("got", 1.0, 2, 1): 9, ("got", 2, True, 1): 9,
            ("beside", 1, 2, 1.0): 9, ("beside", 2, 1.0, 1): 9, (("word", 1, 2, 1),): 9, ("word", "1", 2, 1): 9,
            ("got", 1, 2, True): "late", frozenset(): -1, b"word": 9,
        }
        self.assertEqual(ends(TWO, by_neighbours(TWO), GATHER, 1, others, 1), {(1, 1): 3, (2, 1): 3})

    def test_by_names_of_arguments(self):
        told = ends(rest=1, lates={("word", 1, 2, 1): 5}, rounds=1, program=GATHER, way=by_neighbours(TWO), web=TWO)
        self.assertEqual(told, {(1, 1): 6, (2, 1): 7})
        self.assertEqual(latest(most=2, rounds=1, program=GATHER, way=by_tree(TWO), web=TWO), {(1, 1): 10, (2, 1): 12})

    def test_no_way(self):
        for web, way in unlet_ways():
            for rounds in (0, 2):
                for call, values in ((ends, ({}, 1)), (latest, (1,))):
                    self.refuse(NoWay, call, web, way, GATHER, rounds, *values)

    def test_nothing_handed_in_is_changed_and_what_is_told_is_new(self):
        lates = {("word", 1, 2, 1): 5, ("word", True, 2, 2): 7, "other": [1]}
        ahead = copy.deepcopy(lates)
        told = ends(TWO, by_neighbours(TWO), GATHER, 1, lates, 1)
        self.assertEqual(lates, ahead)
        told.clear()
        self.assertEqual(ends(TWO, by_neighbours(TWO), GATHER, 1, lates, 1), {(1, 1): 6, (2, 1): 7})
        latest(TWO, by_neighbours(TWO), GATHER, 1, 1).clear()
        self.assertEqual(latest(TWO, by_neighbours(TWO), GATHER, 1, 1), {(1, 1): 3, (2, 1): 3})


class OverManyWebs(unittest.TestCase):
    def test_each_end_is_when_all_that_it_waits_for_has_come(self):
        for web, way, program, rounds, chance in some_settings(23):
            most = chance.choice((0, 1, 3, 1000))
            lates = chance_lates(chance, web, rounds, most)
            rest = chance.randint(0, most)
            told = ends(web, way, program, rounds, lates, rest)
            self.assertEqual(told, Equations(web, way, program, rounds, lates, rest).all_ends())

    def test_no_lateness_up_to_a_most_ends_later(self):
        for web, way, program, rounds, chance in some_settings(23):
            most = chance.choice((0, 1, 5, 1000))
            by_most = latest(web, way, program, rounds, most)
            self.assertEqual(by_most, Equations(web, way, program, rounds, {}, most).all_ends())
            lates = chance_lates(chance, web, rounds, most)
            told = ends(web, way, program, rounds, lates, chance.randint(0, most))
            self.assertEqual(sorted(told), sorted(by_most))
            for key, time in told.items():
                self.assertLessEqual(time, by_most[key])
            for (hand, turn), time in by_most.items():
                self.assertLessEqual(time, turn * most * (3 + 4 * way.depth()))

    def test_the_bound_is_come_to(self):
        # Two hands by neighbours: word, got, beside, in each round.
        told = latest(TWO, by_neighbours(TWO), GATHER, 40, 7)
        self.assertEqual(told, {(hand, turn): turn * 7 * 3 for hand in (1, 2) for turn in range(1, 41)})

    def test_twelve_hands_and_forty_rounds(self):
        web = Web(list(range(12)), all_lines(range(12)))
        chance = random.Random(24)
        for way in (by_neighbours(web), by_tree(web), Way(*chance_way(chance, web))):
            lates = chance_lates(chance, web, 40, 100)
            told = ends(web, way, GATHER, 40, lates, 50)
            equations = Equations(web, way, GATHER, 40, lates, 50)
            self.assertEqual(told, equations.all_ends())
        path = path_web(list(range(12)))
        told = latest(path, by_tree(path), GATHER, 40, 1)
        self.assertEqual(told, Equations(path, by_tree(path), GATHER, 40, {}, 1).all_ends())


if __name__ == "__main__":
    unittest.main()
