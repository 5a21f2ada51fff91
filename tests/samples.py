"""Webs, ways and programs that several tests draw on, and a table at which hands take one another's letters."""

import itertools
import random
import unittest

from beatless.errors import Fallen, NoHand, NoRound
from beatless.programs import read_program
from beatless.seats import Seat
from beatless.ways import Way, by_clusters, by_neighbours, by_tree
from beatless.webs import Web

# A program's text, and the same in Python's own words: start, send, when, reckon.
PROGRAMS = [
    (
        "start me\nsend worth\nwhen 1\nreckon add worth sum",
        lambda me, lines: me,
        lambda worth, me, turn, lines, to: worth,
        lambda worth, me, turn, lines, to: 1,
        lambda worth, me, turn, lines, heard: worth + sum(heard),
    ),
    (
        "start add mod me 7 lines\nsend sub worth to\nwhen less me to round sub lines 1\n"
        "reckon add sub most least add count max round worth",
        lambda me, lines: me % 7 + lines,
        lambda worth, me, turn, lines, to: worth - to,
        lambda worth, me, turn, lines, to: turn if me < to else lines - 1,
        lambda worth, me, turn, lines, heard:
            max(heard, default=0) - min(heard, default=0) + len(heard) + max(turn, worth),
    ),
    (
        "start -5\nsend add round mod worth 3\nwhen sub mod add me to 2 mod round 2\n"
        "reckon mod sub sum add worth lines 1000",
        lambda me, lines: -5,
        lambda worth, me, turn, lines, to: turn + worth % 3,
        lambda worth, me, turn, lines, to: (me + to) % 2 - turn % 2,
        lambda worth, me, turn, lines, heard: (sum(heard) - worth - lines) % 1000,
    ),
    (
        "start lines\nsend me\nwhen 0\nreckon add worth round",
        lambda me, lines: lines,
        lambda worth, me, turn, lines, to: me,
        lambda worth, me, turn, lines, to: 0,
        lambda worth, me, turn, lines, heard: worth + turn,
    ),
]
# Values that are no hand, no line and no paper of roads; some can't be looked up in a dict.
ANYTHING = [
    None, True, False, 0, 1, -1, 10 ** 20, 1.0, 0.5, float("nan"), "", "1", "ab", b"1", [], [1], [[]], (), (1,), (1, 2),
    ([],), {}, {1: 2}, set(), {1}, range(3), object(), Web, Way, len,
]
NO_WHOLES = [value for value in ANYTHING if type(value) is not int]


def all_lines(hands):
    return list(itertools.combinations(hands, 2))


def some_webs():
    """Hands and lines of webs of all sizes, from those without lines to those with all."""
    chance = random.Random(6)
    for many in range(1, 13):
        for share in (0, 1, 2, 5, 10):
            hands = sorted(chance.sample(range(100), many))
            lines = [line for line in all_lines(hands) if chance.randrange(10) < share]
            chance.shuffle(lines)
            yield hands, lines


def path_web(hands):
    return Web(hands, list(zip(hands, hands[1:])))


def programs():
    return [read_program(sample[0]) for sample in PROGRAMS]


def leaders_of(parents):
    found = {}
    for hand in parents:
        up = hand
        while parents[up] is not None:
            up = parents[up]
        found[hand] = up
    return found


def chance_way(chance, web):
    """Parents and bridges of a way that is let by, of any clusters and bridges."""
    parents = {}
    order = web.hands()
    chance.shuffle(order)
    for hand in order:
        placed = [other for other in web.neighbours(hand) if other in parents]
        parents[hand] = chance.choice(placed) if placed and chance.randrange(4) else None
    leaders = leaders_of(parents)
    joins = {}
    for one, other in web.lines():
        if leaders[one] != leaders[other]:
            joins.setdefault(frozenset([leaders[one], leaders[other]]), []).append((one, other))
    bridges = []
    for lines in joins.values():
        bridges.extend(chance.sample(lines, chance.randint(1, len(lines))))
    chance.shuffle(bridges)
    return parents, bridges


def some_settings(seed):
    """Webs of all sizes, each by neighbours, by tree, by clusters and by a way of chance, with a program and rounds."""
    chance = random.Random(seed)
    for hands, lines in some_webs():
        web = Web(hands, lines)
        ways = [by_neighbours(web), by_tree(web), by_clusters(web, chance.randint(1, 3)), Way(*chance_way(chance, web))]
        for way in ways:
            yield web, way, chance.choice(programs()), chance.choice((0, 1, 2, 3, 4)), chance


class Refusing(unittest.TestCase):
    def refuse(self, error, call, *values, told=None):
        """Refused with just this error, which bears no value but those told."""
        with self.assertRaises(error) as caught:
            call(*values)
        self.assertIs(type(caught.exception), error)
        self.assertEqual(vars(caught.exception), told or {}, values)


class Table:
    """Hands that take one another's letters, in whatever row they are carried."""

    def __init__(self, web, way, program, rounds, make=Seat):
        self.seats = {hand: make(web, way, program, rounds, hand) for hand in web.hands()}
        self.road = []
        self.letters = []
        for hand in web.hands():
            self.put(self.seats[hand].begin())

    def put(self, letters):
        self.road.extend(letters)
        self.letters.extend(letters)
        return letters

    def carry(self, number=0):
        letter = self.road.pop(number)
        return self.put(self.seats[letter[2]].take(letter))

    def carry_all(self, choose):
        """Carries till no letter is on the road; what is chosen of how many is carried next."""
        while self.road:
            self.carry(choose(len(self.road)))


def unlet_ways():
    """Webs with ways that aren't let by for them, and with what is no way."""
    two = Web([1, 2], [(1, 2)])
    path = path_web([1, 2, 3])
    for parents, bridges in (
        ({1: None}, []), ({1: None, 2: 1, 3: None}, []), ({1: 2, 2: 1}, []), ({1: None, 2: None}, []),
        ({1: None, 2: 2}, []), ({1: None, 2: 3}, []), ({1: None, 2: None}, [(2, 1)]), ({1: None, 2: 1}, [(1, 2)]),
        ({1: None, 2: None}, [(1, 2), (1, 2)]), ({True: None, 2: 1}, []), ({}, []), ([], []), ({1: None, 2: 1}, ()),
    ):
        yield two, Way(parents, bridges)
    for parents, bridges in (
        ({1: None, 2: None, 3: None}, [(1, 2)]), ({1: None, 2: 1, 3: None}, []), ({1: None, 2: 1, 3: 1}, []),
        ({1: None, 2: None, 3: 2}, [(1, 3)]), ({1: None, 2: 1, 3: 2}, [(2, 3)]),
    ):
        yield path, Way(parents, bridges)
    for value in (None, {}, ({1: None, 2: 1}, []), two, "way"):
        yield two, value


def carry_all(hall, choose=lambda many: 0):
    """Carries till no letter is on the road; what is chosen of how many is carried next."""
    while hall.road():
        hall.carry(choose(len(hall.road())))


def let_fall(hall, chance):
    """A hand or a line falls, where it hasn't."""
    web = hall.web_now()
    try:
        if chance.randrange(2) or not web.lines():
            hall.fall(chance.choice(web.hands()))
        else:
            hall.cut(*chance.choice(web.lines()))
    except Fallen:
        pass


def stand_of(hall):
    """All that a hall tells, as plain values; of webs and ways what they hold."""
    hands = range(100)
    told = []
    for hand in hands:
        try:
            ended = hall.ended(hand)
        except NoHand:
            continue
        worths = {}
        heard = {}
        for turn in range(ended + 2):
            try:
                worths[turn] = hall.worth(hand, turn)
            except NoRound:
                pass
            try:
                heard[turn] = hall.heard(hand, turn)
            except NoRound:
                pass
        told.append((hand, ended, worths, heard))
    web, way = hall.web_now(), hall.way_now()
    pieces = [(each.hands(), each.lines(), rounds) for each, rounds in hall.pieces()]
    sent = {}
    for kind in ("word", "got", "through", "all", "beside", "clear", "go"):
        for turn in range(45):
            if hall.sent(kind, turn):
                sent[kind, turn] = hall.sent(kind, turn)
    return (
        hall.road(), told, hall.done(), web.hands(), web.lines(), way.all_parents(), way.all_bridges(), pieces, sent,
    )
