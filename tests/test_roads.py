"""Roads and papers of roads (points 15 and 16, and what 5 says of them)."""

import copy
import itertools
import random
import unittest

from beatless.errors import NoWay
from beatless.roads import holds, roads
from beatless.ways import Way, by_clusters, by_neighbours, by_tree, lets
from beatless.webs import Web
from samples import ANYTHING, all_lines, chance_way, leaders_of, path_web, some_webs

# Clusters: 1 over 2 over 4; 3 over 5; 9 alone. The lines (2, 3), (2, 5), (4, 5) join the first two.
WEB = Web([1, 2, 3, 4, 5, 9], [(1, 2), (2, 4), (3, 5), (2, 3), (2, 5), (4, 5)])
PARENTS = {1: None, 2: 1, 3: None, 4: 2, 5: 3, 9: None}
PAPER = {
    (1, 2): [2, 1],
    (2, 1): [1, 2],
    (2, 3): [3, 5, 2, 1, 2],
    (2, 4): [4, 2, 1, 2],
    (2, 5): [5, 3, 5, 2, 1, 2],
    (3, 2): [2, 1, 2, 5, 3],
    (3, 5): [5, 3],
    (4, 2): [2, 1, 2, 4],
    (4, 5): [5, 3, 5, 2, 1, 2, 4],
    (5, 2): [2, 1, 2, 5, 3, 5],
    (5, 3): [3, 5],
    (5, 4): [4, 2, 1, 2, 5, 3, 5],
}
WAY = Way(PARENTS, [(4, 5), (2, 5)])


def climbs(parents, steps):
    """Whether each next one is the parent of the one ahead, and the last one a leader."""
    return all(parents[one] == other for one, other in zip(steps, steps[1:])) and parents[steps[-1]] is None


def rises_and_sinks(parents, steps, first, last):
    """Whether it goes from the first up to a leader, which stands once, and from there down to the last."""
    if steps[:1] != [first] or steps[-1:] != [last]:
        return False
    return any(
        climbs(parents, steps[:top + 1]) and climbs(parents, steps[top:][::-1]) for top in range(len(steps))
    )


def is_road(parents, bridges, hand, neighbour, road):
    """Point 15, looked at from the road's side: is there a place where it may cross?"""
    leaders = leaders_of(parents)
    if not all(each in parents for each in road):
        return False
    if leaders[hand] == leaders[neighbour]:
        return rises_and_sinks(parents, road, neighbour, hand)
    for at in range(1, len(road)):
        ends = (road[at - 1], road[at])
        if ends in bridges or ends[::-1] in bridges:
            there = {leaders[ends[0]], leaders[ends[1]]} == {leaders[hand], leaders[neighbour]}
            within = rises_and_sinks(parents, road[:at], neighbour, ends[0])
            if there and within and rises_and_sinks(parents, road[at:], ends[1], hand):
                return True
    return False


def other_roads(road, hands):
    """The road with one thing otherwise."""
    yield []
    yield road[::-1]
    yield road + road
    for at in range(len(road)):
        yield road[:at] + road[at + 1:]
        yield road[:at] + [road[at]] + road[at:]
        yield road[:at + 1]
        yield road[at:]
        for hand in hands + [97]:
            yield road[:at] + [hand] + road[at + 1:]
            yield road[:at] + [hand] + road[at:]
    for one, other in itertools.combinations(range(len(road)), 2):
        swapped = list(road)
        swapped[one], swapped[other] = swapped[other], swapped[one]
        yield swapped


class Roads(unittest.TestCase):
    def test_for_each_hand_and_neighbour(self):
        self.assertEqual(roads(WEB, WAY), PAPER)

    def test_of_several_bridges_the_least_one(self):
        for bridges in itertools.permutations([(2, 3), (2, 5), (4, 5)]):
            paper = roads(WEB, Way(PARENTS, list(bridges)))
            self.assertEqual(paper[(4, 5)], [5, 3, 2, 1, 2, 4])
            self.assertEqual(paper[(5, 4)], [4, 2, 1, 2, 3, 5])
            self.assertEqual(paper[(2, 3)], [3, 2, 1, 2])
            self.assertEqual(paper[(3, 2)], [2, 1, 2, 3])
            self.assertEqual(paper[(2, 5)], [5, 3, 2, 1, 2])
        # The least bridge by its lesser end, though from the other cluster (3, 9) would be.
        web = Web([1, 3, 8, 9], [(1, 9), (3, 8), (3, 9), (1, 8), (8, 9)])
        way = Way({1: 9, 9: None, 3: 8, 8: None}, [(8, 9), (3, 9), (1, 8)])
        self.assertEqual(roads(web, way)[(9, 3)], [3, 8, 1, 9])
        self.assertEqual(roads(web, way)[(3, 9)], [9, 1, 8, 3])
        self.assertEqual(roads(web, way)[(8, 9)], [9, 1, 8])
        way = Way({1: 9, 9: None, 3: 8, 8: None}, [(8, 9), (3, 9)])
        self.assertEqual(roads(web, way)[(9, 3)], [3, 8, 3, 9])

    def test_between_three_clusters_the_bridge_of_the_two(self):
        web = Web([1, 2, 3], all_lines([1, 2, 3]))
        self.assertEqual(roads(web, by_neighbours(web)), {
            (1, 2): [2, 1], (1, 3): [3, 1], (2, 1): [1, 2], (2, 3): [3, 2], (3, 1): [1, 3], (3, 2): [2, 3],
        })

    def test_by_tree(self):
        web = Web([1, 2, 3, 4], [(1, 2), (1, 3), (2, 3), (2, 4), (3, 4)])
        self.assertEqual(roads(web, by_tree(web)), {
            (1, 2): [2, 1], (1, 3): [3, 1], (2, 1): [1, 2], (2, 3): [3, 1, 2], (2, 4): [4, 2, 1, 2], (3, 1): [1, 3],
            (3, 2): [2, 1, 3], (3, 4): [4, 2, 1, 3], (4, 2): [2, 1, 2, 4], (4, 3): [3, 1, 2, 4],
        })

    def test_a_web_without_lines(self):
        self.assertEqual(roads(Web([1], []), Way({1: None}, [])), {})
        self.assertEqual(roads(Web([1, 2], []), Way({1: None, 2: None}, [])), {})

    def test_no_way_where_it_is_not_let_by(self):
        for parents, bridges in (
            ({}, []), ({1: None}, []), ({**PARENTS, 7: None}, [(2, 5)]), ({**PARENTS, 4: 1}, [(2, 5)]),
            ({**PARENTS, 1: 2}, [(2, 5)]), (PARENTS, []), (PARENTS, [(5, 2)]), (PARENTS, [(2, 5), (2, 5)]),
            (PARENTS, [(2, 5), (1, 2)]), (PARENTS, [[2, 5]]), ({**PARENTS, 1: [2]}, [(2, 5)]), (PARENTS, [(2, 5), None]),
            ({hand: None for hand in PARENTS}, [(2, 5)]),
        ):
            with self.assertRaises(NoWay) as caught:
                roads(WEB, Way(parents, bridges))
            self.assertIs(type(caught.exception), NoWay)
            self.assertEqual(vars(caught.exception), {})

    def test_many_ways(self):
        chance = random.Random(15)
        for hands, lines in some_webs():
            web = Web(hands, lines)
            ways = [by_clusters(web, reach) for reach in range(13)]
            ways.extend(Way(*chance_way(chance, web)) for step in range(6))
            for way in ways:
                self.check(web, way)

    def check(self, web, way):
        paper = roads(web, way)
        parents = way.all_parents()
        leaders = leaders_of(parents)
        pairs = [(hand, other) for hand in web.hands() for other in web.neighbours(hand)]
        self.assertEqual(sorted(paper), pairs)
        for hand, other in pairs:
            both = {leaders[hand], leaders[other]}
            joining = [each for each in way.all_bridges() if {leaders[each[0]], leaders[each[1]]} == both]
            least = [min(joining)] if joining else []
            self.assertTrue(is_road(parents, least, hand, other, paper[(hand, other)]))
        self.assertIs(holds(web, way, paper), True)

    def test_by_names_of_arguments(self):
        self.assertEqual(roads(web=WEB, way=WAY), PAPER)
        self.assertIs(holds(web=WEB, way=WAY, paper=PAPER), True)


class Holds(unittest.TestCase):
    def check(self, paper, web=WEB, way=WAY):
        self.assertIs(holds(web, way, paper), True)

    def refuse(self, paper, web=WEB, way=WAY):
        self.assertIs(holds(web, way, paper), False)

    def test_a_paper_that_is_right(self):
        self.check(PAPER)
        self.check(dict(reversed(PAPER.items())))
        self.check({}, Web([1], []), Way({1: None}, []))

    def test_any_bridge_of_the_two_clusters_will_do_for_each_road(self):
        self.check({**PAPER, (4, 5): [5, 3, 5, 4, 2, 1, 2, 4]})
        self.check({**PAPER, (5, 4): [4, 2, 1, 2, 4, 5, 3, 5], (2, 3): [3, 5, 4, 2, 1, 2]})
        self.refuse({**PAPER, (4, 5): [5, 3, 2, 1, 2, 4]})
        self.check({**PAPER, (4, 5): [5, 3, 2, 1, 2, 4]}, way=Way(PARENTS, WAY.all_bridges() + [(2, 3)]))

    def test_a_pair_too_few(self):
        for pair in PAPER:
            self.refuse({each: PAPER[each] for each in PAPER if each != pair})
        self.refuse({})

    def test_a_pair_too_many(self):
        for pair, road in (
            ((1, 4), [4, 2, 1]), ((1, 1), [1]), ((9, 9), [9]), ((1, 9), [9, 1]), ((4, 3), [3, 5, 2, 1, 2, 4]),
            ((1, 2, 3), [1]), ((1,), [1]), ((), []), (1, [1]), (None, None), ("12", [2, 1]), ((1, "2"), [2, 1]),
        ):
            self.refuse({**PAPER, pair: road})
            self.refuse({pair: road}, Web([1], []), Way({1: None}, []))

    def test_another_pair_in_the_place_of_one(self):
        for other in ((1, 4), (1, 9), (2, 2), 12, "12", None, (1, 2, 0), frozenset([1, 2]), (1, "2")):
            paper = dict(PAPER)
            paper[other] = paper.pop((1, 2))
            self.refuse(paper)

    def test_a_truth_is_no_hand_in_a_pair(self):
        web = Web([0, 1], [(0, 1)])
        for way in (by_tree(web), by_neighbours(web)):
            self.check({(0, 1): [1, 0], (1, 0): [0, 1]}, web, way)
            for one, other in ((0, True), (False, 1), (False, True), (0, 1.0), (0.0, 1)):
                self.refuse({(one, other): [1, 0], (1, 0): [0, 1]}, web, way)
                self.refuse({(0, 1): [1, 0], (other, one): [0, 1]}, web, way)
                self.refuse({(0, 1): [other, one], (1, 0): [0, 1]}, web, way)
                self.refuse({(0, 1): [1, 0], (1, 0): [one, other]}, web, way)

    def test_a_road_is_a_list(self):
        for pair in PAPER:
            self.refuse({**PAPER, pair: tuple(PAPER[pair])})
            self.refuse({**PAPER, pair: {hand: True for hand in PAPER[pair]}})
            self.refuse({**PAPER, pair: [PAPER[pair]]})
            for wrong in ANYTHING:
                self.refuse({**PAPER, pair: wrong})
                self.refuse({**PAPER, pair: PAPER[pair] + [wrong]})
                self.refuse({**PAPER, pair: [wrong] + PAPER[pair]})

    def test_one_thing_wrong_in_a_road(self):
        for pair, road in PAPER.items():
            for other in other_roads(road, WEB.hands()):
                answer = is_road(PARENTS, WAY.all_bridges(), pair[0], pair[1], other)
                self.assertIs(holds(WEB, WAY, {**PAPER, pair: other}), answer, (pair, other))

    def test_one_thing_wrong_in_a_road_of_many_ways(self):
        chance = random.Random(16)
        seen = {True: 0, False: 0}
        for hands, lines in some_webs():
            web = Web(hands, lines)
            parents, bridges = chance_way(chance, web)
            way = Way(parents, bridges)
            paper = roads(web, way)
            for pair in chance.sample(sorted(paper), min(4, len(paper))):
                others = list(other_roads(paper[pair], hands))
                for other in chance.sample(others, min(30, len(others))):
                    answer = is_road(parents, bridges, pair[0], pair[1], other)
                    seen[answer] += 1
                    self.assertIs(holds(web, way, {**paper, pair: other}), answer)
        self.assertGreater(seen[True], 10)
        self.assertGreater(seen[False], 1000)

    def test_anything_else_as_a_paper(self):
        for wrong in ANYTHING + [list(PAPER.items()), list(PAPER), tuple(PAPER.items()), "paper", WAY]:
            self.refuse(wrong)
            if wrong != {}:
                self.refuse(wrong, Web([1], []), Way({1: None}, []))

    def test_a_way_with_one_thing_wrong(self):
        for parents, bridges in (
            ({}, []), ({**PARENTS, 7: None}, [(2, 5)]), ({each: PARENTS[each] for each in PARENTS if each != 9}, [(2, 5)]),
            ({**PARENTS, 9: 1}, [(2, 5)]), ({**PARENTS, 9: 9}, [(2, 5)]), ({**PARENTS, 9: [1]}, [(2, 5)]),
            ({**PARENTS, 9: True}, [(2, 5)]), (PARENTS, [(5, 2)]), (PARENTS, [[2, 5]]), (PARENTS, [(2, 5), (2, 5)]),
            (PARENTS, [(2, 5), (1, 2)]), (PARENTS, [(2, 5), (1, 9)]), (PARENTS, [(2, 5), None]), (PARENTS, [(2, 5), [1]]),
            (PARENTS, [(2, 5), (2, 5, 1)]), (PARENTS, [(2, 5), (4, 5.0)]),
        ):
            paper = roads(WEB, Way(PARENTS, [(2, 5)]))
            self.check(paper, way=Way(PARENTS, [(2, 5)]))
            self.refuse(paper, way=Way(parents, bridges))
            self.refuse({}, way=Way(parents, bridges))

    def test_a_way_that_goes_round(self):
        web = Web([1, 2], [(1, 2)])
        way = Way({1: 2, 2: 1}, [])
        for paper in ({}, {(1, 2): [2, 1], (2, 1): [1, 2]}, {(1, 2): [2, 1, 2, 1], (2, 1): [1, 2, 1, 2]}):
            self.refuse(paper, web, way)

    def test_no_bridge_between_two_clusters(self):
        web = Web([1, 2], [(1, 2)])
        way = Way({1: None, 2: None}, [])
        for paper in ({}, {(1, 2): [2, 1], (2, 1): [1, 2]}, {(1, 2): [], (2, 1): []}, {(1, 2): [2], (2, 1): [1]}):
            self.refuse(paper, web, way)

    def test_a_way_is_let_by_just_where_a_paper_holds(self):
        # Each road that might do, of all ways of a small web: some paper of them holds just where lets says so.
        web = Web([1, 2, 3], all_lines([1, 2, 3]))
        pairs = [(hand, other) for hand in web.hands() for other in web.neighbours(hand)]
        for above in itertools.product([None, 1, 2, 3], repeat=3):
            for chosen in itertools.product([False, True], repeat=3):
                bridges = [line for line, chose in zip(web.lines(), chosen) if chose]
                way = Way(dict(zip([1, 2, 3], above)), bridges)
                if lets(web, way):
                    self.check(roads(web, way), web, way)
                else:
                    for make in (by_neighbours, by_tree, lambda each: by_clusters(each, 1)):
                        self.refuse(roads(web, make(web)), web, way)
                    self.refuse({pair: [pair[1], pair[0]] for pair in pairs}, web, way)
                    self.refuse({pair: [] for pair in pairs}, web, way)


class NothingKept(unittest.TestCase):
    def test_what_is_handed_in_stays(self):
        paper = copy.deepcopy(PAPER)
        holds(WEB, WAY, paper)
        self.assertEqual(paper, PAPER)
        wrong = {(1, 2): [[1], (2, {3: 4})]}
        holds(WEB, WAY, wrong)
        self.assertEqual(wrong, {(1, 2): [[1], (2, {3: 4})]})
        self.assertEqual((WAY.all_parents(), WAY.all_bridges()), (PARENTS, [(4, 5), (2, 5)]))

    def test_each_list_and_dict_told_is_a_new_one(self):
        web = path_web([1, 2, 3])
        way = by_neighbours(web)
        paper = roads(web, way)
        before = copy.deepcopy(paper)
        self.assertEqual(len({id(road) for road in paper.values()}), 4)
        for road in paper.values():
            road.append(7)
        paper.clear()
        self.assertEqual(roads(web, way), before)
        self.assertIs(holds(web, way, before), True)


if __name__ == "__main__":
    unittest.main()
