"""Ways: which are let by, what they tell, and three that are made (points 12 to 14)."""

import itertools
import random
import unittest

from beatless.ways import Way, by_clusters, by_neighbours, by_tree, lets
from beatless.webs import Web
from samples import ANYTHING, all_lines, chance_way, leaders_of, path_web, some_webs

# Two clusters, of 1 with 2 and 4 and of 3 with 5; the lines (2, 3) and (4, 5) join them. 9 has no line.
WEB = Web([1, 2, 3, 4, 5, 9], [(1, 2), (2, 4), (3, 5), (2, 3), (4, 5)])
PARENTS = {1: None, 2: 1, 3: None, 4: 2, 5: 3, 9: None}
BRIDGES = [(2, 3)]


def with_parent(hand, parent):
    return {**PARENTS, hand: parent}


def lets_in_pythons_words(web, parents, bridges):
    """Point 12, of parents and bridges that are of the right kinds, clause by clause."""
    if sorted(parents) != web.hands():
        return False
    if any(parent is not None and not web.has_line(hand, parent) for hand, parent in parents.items()):
        return False
    for hand in parents:
        for step in range(len(parents)):
            hand = parents[hand] if hand is not None else None
        if hand is not None:
            return False
    leaders = leaders_of(parents)
    if any(bridge not in web.lines() or bridges.count(bridge) > 1 for bridge in bridges):
        return False
    joined = [{leaders[one], leaders[other]} for one, other in bridges]
    if any(len(pair) == 1 for pair in joined):
        return False
    return all({leaders[one], leaders[other]} in joined for one, other in web.lines() if leaders[one] != leaders[other])


class LetBy(unittest.TestCase):
    def check(self, parents, bridges, web=WEB):
        self.assertIs(lets(web, Way(parents, bridges)), True)

    def refuse(self, parents, bridges, web=WEB):
        self.assertIs(lets(web, Way(parents, bridges)), False)

    def test_a_way_that_is_let_by(self):
        self.check(PARENTS, BRIDGES)
        self.check(PARENTS, [(4, 5)])
        self.check({hand: None for hand in WEB.hands()}, WEB.lines())
        self.check({7: None}, [], Web([7], []))
        self.check({1: None, 2: None}, [], Web([1, 2], []))
        self.check({1: 2, 2: None}, [], Web([1, 2], [(1, 2)]))
        self.check({1: None, 2: None}, [(1, 2)], Web([1, 2], [(1, 2)]))

    def test_the_order_of_hands_and_bridges_plays_no_part(self):
        self.check(dict(reversed(PARENTS.items())), [(4, 5), (2, 3)])
        for bridges in itertools.permutations([(2, 3), (4, 5)]):
            self.check(PARENTS, list(bridges))
        for bridges in itertools.permutations(WEB.lines()):
            self.check({hand: None for hand in WEB.hands()}, list(bridges))

    def test_parents_has_all_hands(self):
        for hand in WEB.hands():
            self.refuse({each: PARENTS[each] for each in PARENTS if each != hand}, BRIDGES)
        self.refuse({}, [])
        self.refuse({1: None}, [], Web([1, 2], []))
        self.refuse({}, [], Web([7], []))

    def test_parents_has_no_others(self):
        for other in (0, 6, 10, 99, 100, -1, 10 ** 20, True, 1.5, None, "1", "", (1,), (), len):
            if other is not True:
                self.refuse({**PARENTS, other: None}, BRIDGES)
            self.refuse({other: None}, [], Web([7], []))
            self.refuse({other: None, 7: None}, [], Web([7], []))
        self.refuse({**PARENTS, 6: 1}, BRIDGES)

    def test_a_key_that_equals_a_hand_is_none(self):
        for wrong in (True, 1.0):
            self.refuse({wrong: None}, [], Web([1], []))
            self.refuse({0: None, wrong: 0}, [], Web([0, 1], [(0, 1)]))
        self.refuse({False: None}, [], Web([0], []))

    def test_each_parent_is_a_neighbour(self):
        self.refuse(with_parent(4, 1), BRIDGES)
        self.refuse(with_parent(9, 1), BRIDGES)
        self.refuse(with_parent(1, 9), BRIDGES)
        self.refuse(with_parent(1, 1), BRIDGES)
        self.refuse(with_parent(9, 9), BRIDGES)
        for hand in WEB.hands():
            for wrong in (0, 6, 99, 100, -1, 10 ** 20):
                self.refuse(with_parent(hand, wrong), BRIDGES)

    def test_no_parent_is_of_another_kind(self):
        for wrong in ANYTHING:
            if wrong is not None:
                self.refuse({0: wrong, 2: 0}, [], Web([0, 2], [(0, 2)]))
        for wrong in (True, 1.0, "1", [1], (1,)):
            self.refuse({1: None, 2: wrong}, [], Web([1, 2], [(1, 2)]))
        self.refuse({0: None, 1: False}, [], Web([0, 1], [(0, 1)]))

    def test_going_up_comes_to_a_leader(self):
        self.refuse({1: 2, 2: 1}, [], Web([1, 2], [(1, 2)]))
        self.refuse({1: 2, 2: 1, 3: 2}, [], path_web([1, 2, 3]))
        self.refuse({1: 2, 2: 3, 3: 1}, [], Web([1, 2, 3], all_lines([1, 2, 3])))
        self.refuse({1: 2, 2: 3, 3: 2, 4: 3, 5: None}, [(4, 5)], path_web([1, 2, 3, 4, 5]))
        ring = list(range(12))
        web = Web(ring, [(hand, hand + 1) for hand in range(11)] + [(0, 11)])
        self.refuse({hand: (hand + 1) % 12 for hand in ring}, [], web)
        self.check({hand: hand + 1 if hand < 11 else None for hand in ring}, [], web)

    def test_bridges_are_lines_of_the_web(self):
        for wrong in ((1, 3), (1, 5), (1, 9), (3, 4), (2, 5), (5, 9), (2, 6), (0, 3), (100, 101), (3, 3)):
            self.refuse(PARENTS, BRIDGES + [wrong])
            self.refuse(PARENTS, [wrong] + BRIDGES)

    def test_bridges_are_written_as_the_web_tells_its_lines(self):
        self.refuse(PARENTS, [(3, 2)])
        self.refuse(PARENTS, [(2, 3), (5, 4)])
        self.refuse(PARENTS, [(2, 3), (3, 2)])
        for wrong in ([2, 3], (2, 3, 4), (2,), (2, 3.0), (2.0, 3), ("2", "3"), ((2, 3),), {2: 3}, {2, 3}, "23"):
            self.refuse(PARENTS, [wrong])
            self.refuse(PARENTS, [(2, 3), wrong])
        self.refuse({0: None, 1: None}, [(0, True)], Web([0, 1], [(0, 1)]))
        self.refuse({0: None, 1: None}, [(False, 1)], Web([0, 1], [(0, 1)]))

    def test_no_bridge_is_of_another_kind(self):
        for wrong in ANYTHING:
            self.refuse(PARENTS, [(2, 3), wrong])
            self.refuse(PARENTS, [(2, 3), (4, wrong)])
            self.refuse(PARENTS, [(2, 3), (wrong, 5)])
            self.refuse({7: None}, [wrong], Web([7], []))

    def test_bridges_are_unlike(self):
        self.refuse(PARENTS, [(2, 3), (2, 3)])
        self.refuse(PARENTS, [(2, 3), (4, 5), (2, 3)])
        self.check(PARENTS, [(2, 3), (4, 5)])

    def test_each_bridge_is_between_hands_of_two_leaders(self):
        for wrong in ((1, 2), (2, 4), (3, 5)):
            self.refuse(PARENTS, BRIDGES + [wrong])
        # Two hands below one leader, neither the other's parent.
        web = Web([1, 2, 3], all_lines([1, 2, 3]))
        self.check({1: None, 2: 1, 3: 1}, [], web)
        self.refuse({1: None, 2: 1, 3: 1}, [(2, 3)], web)

    def test_where_a_line_joins_two_clusters_some_bridge_does(self):
        self.refuse(PARENTS, [])
        self.refuse({1: None, 2: None}, [], Web([1, 2], [(1, 2)]))
        lines = WEB.lines()
        for line in lines:
            self.refuse({hand: None for hand in WEB.hands()}, [each for each in lines if each != line])
        # A bridge to a third cluster is none between these two.
        web = Web([1, 2, 3], all_lines([1, 2, 3]))
        for bridges in itertools.combinations(web.lines(), 2):
            self.refuse({1: None, 2: None, 3: None}, list(bridges), web)

    def test_parents_are_a_dict_and_bridges_a_list(self):
        for wrong in ANYTHING:
            if not isinstance(wrong, dict):
                self.refuse(wrong, BRIDGES)
            if not isinstance(wrong, list):
                self.refuse(PARENTS, wrong)
                self.refuse({7: None}, wrong, Web([7], []))
        self.refuse(list(PARENTS.items()), BRIDGES)
        self.refuse(PARENTS, tuple(BRIDGES))
        self.refuse(PARENTS, {(2, 3): True})

    def test_what_is_no_way(self):
        for wrong in ANYTHING + [PARENTS, BRIDGES, (PARENTS, BRIDGES)]:
            self.assertIs(lets(WEB, wrong), False)

    def test_a_way_of_another_web(self):
        self.refuse(PARENTS, BRIDGES, Web([1, 2], [(1, 2)]))
        self.refuse(PARENTS, BRIDGES, Web(WEB.hands(), []))
        self.refuse(PARENTS, BRIDGES, Web(WEB.hands(), WEB.lines() + [(5, 9)]))

    def test_all_ways_of_small_webs(self):
        webs = [Web([0, 1, 2], lines) for many in range(4) for lines in map(list, itertools.combinations(all_lines([0, 1, 2]), many))]
        webs.append(Web([0, 1, 2, 3], [(0, 1), (1, 2), (2, 3), (0, 3)]))
        seen = {True: 0, False: 0}
        for web in webs:
            hands = web.hands()
            lines = web.lines()
            for above in itertools.product(hands + [None], repeat=len(hands)):
                parents = dict(zip(hands, above))
                for chosen in itertools.product([False, True], repeat=len(lines)):
                    bridges = [line for line, chose in zip(lines, chosen) if chose]
                    answer = lets_in_pythons_words(web, parents, bridges)
                    seen[answer] += 1
                    self.assertIs(lets(web, Way(parents, bridges)), answer, (lines, parents, bridges))
        self.assertGreater(seen[True], 100)
        self.assertGreater(seen[False], 100)

    def test_ways_by_chance(self):
        chance = random.Random(12)
        for hands, lines in some_webs():
            web = Web(hands, lines)
            parents, bridges = chance_way(chance, web)
            self.check(parents, bridges, web)
            for step in range(5):
                hand = chance.choice(hands)
                other = {**parents, hand: chance.choice(web.neighbours(hand) + [None])}
                fewer = bridges[:-1] if chance.randrange(2) else bridges
                self.assertIs(lets(web, Way(other, fewer)), lets_in_pythons_words(web, other, fewer))

    def test_by_names_of_arguments(self):
        self.assertIs(lets(web=WEB, way=Way(parents=PARENTS, bridges=BRIDGES)), True)


class Told(unittest.TestCase):
    def test_parent_of(self):
        way = Way(PARENTS, BRIDGES)
        self.assertEqual([way.parent_of(hand) for hand in WEB.hands()], [None, 1, None, 2, 3, None])
        for hand in (0, 6, 99, 10 ** 20, -2):
            self.assertIsNone(way.parent_of(hand))
        self.assertEqual(way.parent_of(hand=5), 3)

    def test_parent_of_anything_that_is_not_there(self):
        for value in ANYTHING:
            if value != 1 or value is True:
                self.assertIsNone(Way({1: 7, 2: 1}, []).parent_of(value))
                self.assertIsNone(Way({}, []).parent_of(value))

    def test_all_parents_and_bridges(self):
        way = Way(PARENTS, [(4, 5), (2, 3)])
        self.assertEqual(way.all_parents(), PARENTS)
        self.assertEqual(way.all_bridges(), [(4, 5), (2, 3)])

    def test_they_are_told_as_handed_in_of_any_dict_and_list(self):
        for parents, bridges in (
            ({}, []), ({1: 1}, [(2, 1), (2, 1)]), ({"a": "b"}, ["c"]), ({1: [2]}, [[1, 2]]), ({None: {}}, [{}, None]),
        ):
            way = Way(parents, bridges)
            self.assertEqual(way.all_parents(), parents)
            self.assertEqual(way.all_bridges(), bridges)
            for hand in parents:
                self.assertEqual(way.parent_of(hand), parents[hand])

    def test_leader_and_depth(self):
        way = Way(PARENTS, BRIDGES)
        self.assertEqual([way.leader(hand) for hand in WEB.hands()], [1, 1, 3, 1, 3, 9])
        self.assertEqual([way.depth_of(hand) for hand in WEB.hands()], [0, 1, 0, 2, 1, 0])
        self.assertEqual(way.depth(), 2)
        self.assertEqual((way.leader(hand=4), way.depth_of(hand=4)), (1, 2))

    def test_depth_of_other_ways(self):
        self.assertEqual(Way({1: None}, []).depth(), 0)
        self.assertEqual(Way({1: None, 2: None}, [(1, 2)]).depth(), 0)
        self.assertEqual(Way({1: 2, 2: None}, []).depth(), 1)
        self.assertEqual(Way({1: None, 2: 1, 3: 1, 4: None}, []).depth(), 1)
        hands = list(range(12))
        down = Way({hand: hand - 1 if hand else None for hand in hands}, [])
        up = Way({hand: hand + 1 if hand < 11 else None for hand in hands}, [])
        for hand in hands:
            self.assertEqual((down.leader(hand), down.depth_of(hand)), (0, hand))
            self.assertEqual((up.leader(hand), up.depth_of(hand)), (11, 11 - hand))
        self.assertEqual((down.depth(), up.depth()), (11, 11))

    def test_children_rise(self):
        way = Way({9: 4, 4: None, 2: 4, 7: 4, 1: 2}, [])
        self.assertEqual([way.children(hand) for hand in (4, 2, 9, 7, 1)], [[2, 7, 9], [1], [], [], []])
        self.assertEqual(way.children(hand=2), [1])
        way = Way({0: None, 1: 0}, [])
        self.assertEqual((way.children(0), way.children(1)), ([1], []))

    def test_bridges_at_a_hand_rise(self):
        way = Way({hand: None for hand in (1, 3, 4, 5, 8)}, [(4, 8), (4, 5), (3, 4), (1, 4), (1, 8)])
        self.assertEqual([way.bridges_at(hand) for hand in (1, 3, 4, 5, 8)], [[4, 8], [4], [1, 3, 5, 8], [4], [1, 4]])
        self.assertEqual(way.bridges_at(hand=5), [4])
        self.assertEqual(Way(PARENTS, BRIDGES).bridges_at(9), [])
        self.assertEqual(Way(PARENTS, BRIDGES).bridges_at(5), [])

    def test_ways_by_chance(self):
        chance = random.Random(13)
        for hands, lines in some_webs():
            parents, bridges = chance_way(chance, Web(hands, lines))
            way = Way(parents, bridges)
            leaders = leaders_of(parents)
            self.assertEqual({hand: way.leader(hand) for hand in hands}, leaders)
            for hand in hands:
                self.assertEqual(way.children(hand), [each for each in hands if parents[each] == hand])
                ends = [each for each in hands if (each, hand) in bridges or (hand, each) in bridges]
                self.assertEqual(way.bridges_at(hand), ends)
                above = 0 if parents[hand] is None else way.depth_of(parents[hand]) + 1
                self.assertEqual(way.depth_of(hand), above)
            self.assertEqual(way.depth(), max(way.depth_of(hand) for hand in hands))


class NothingKept(unittest.TestCase):
    def check(self, way):
        self.assertEqual(way.all_parents(), {1: None, 2: 1, 3: None})
        self.assertEqual(way.all_bridges(), [(2, 3)])
        self.assertEqual((way.parent_of(2), way.parent_of(4), way.leader(2), way.depth()), (1, None, 1, 1))
        self.assertEqual((way.children(1), way.bridges_at(2), way.bridges_at(1)), ([2], [3], []))
        self.assertIs(lets(path_web([1, 2, 3]), way), True)

    def test_what_is_handed_in_is_neither_changed_nor_kept(self):
        parents = {1: None, 2: 1, 3: None}
        bridges = [(2, 3)]
        way = Way(parents, bridges)
        lets(path_web([1, 2, 3]), way)
        self.assertEqual((parents, bridges), ({1: None, 2: 1, 3: None}, [(2, 3)]))
        parents[4] = 1
        parents[2] = None
        bridges.clear()
        self.check(way)

    def test_each_list_and_dict_told_is_a_new_one(self):
        way = Way({1: None, 2: 1, 3: None}, [(2, 3)])
        way.all_parents().clear()
        for told in (way.all_bridges(), way.children(1), way.bridges_at(2), way.bridges_at(1)):
            told.append("more")
        self.check(way)

    def test_those_within_are_neither_kept_nor_told_twice(self):
        parents = {1: [2], 2: {3: [4]}, 3: ([5],)}
        bridges = [[1, 2], ([3], 4), {5: [6]}]
        way = Way(parents, bridges)
        for step in range(3):
            parents[1].append("more")
            parents[2][3].append("more")
            parents[3][0].append("more")
            bridges[0].append("more")
            bridges[1][0].append("more")
            bridges[2][5].append("more")
            self.assertEqual(way.all_parents(), {1: [2], 2: {3: [4]}, 3: ([5],)})
            self.assertEqual(way.all_bridges(), [[1, 2], ([3], 4), {5: [6]}])
            self.assertEqual([way.parent_of(hand) for hand in (1, 2, 3)], [[2], {3: [4]}, ([5],)])
            parents = {hand: way.parent_of(hand) for hand in (1, 2, 3)} if step else way.all_parents()
            bridges = way.all_bridges()

    def test_a_web_stays_as_it_was(self):
        web = Web(WEB.hands(), WEB.lines())
        for make in (by_neighbours, by_tree, lambda web: by_clusters(web, 1), lambda web: lets(web, Way(PARENTS, BRIDGES))):
            make(web)
            self.assertEqual((web.hands(), web.lines()), (WEB.hands(), WEB.lines()))


def steps_from(web, hands, leader):
    """How many steps over these hands each is from the leader; another way: as often as there are hands, all lines."""
    far = {leader: 0}
    for step in hands:
        for one, other in web.lines() + [(other, one) for one, other in web.lines()]:
            if one in far and other in hands:
                far[other] = min(far.get(other, 99), far[one] + 1)
    return far


def clusters_in_pythons_words(web, reach):
    parents = {}
    left = web.hands()
    while left:
        far = {hand: steps for hand, steps in steps_from(web, left, left[0]).items() if steps <= reach}
        for hand in far:
            nearer = [other for other in web.neighbours(hand) if far.get(other, 99) == far[hand] - 1]
            parents[hand] = min(nearer) if nearer else None
        left = [hand for hand in left if hand not in far]
    leaders = leaders_of(parents)
    bridges = []
    for one, other in itertools.combinations(web.hands(), 2):
        joining = [line for line in web.lines() if {leaders[line[0]], leaders[line[1]]} == {one, other}]
        bridges.extend(joining and [min(joining)])
    return parents, sorted(bridges)


class Made(unittest.TestCase):
    def check(self, way, parents, bridges):
        self.assertEqual(way.all_parents(), parents)
        self.assertEqual(way.all_bridges(), bridges)

    def test_by_neighbours(self):
        web = Web([1, 3, 4, 9], [(3, 4), (1, 4), (1, 3)])
        self.check(by_neighbours(web), {1: None, 3: None, 4: None, 9: None}, [(1, 3), (1, 4), (3, 4)])
        self.check(by_neighbours(Web([0], [])), {0: None}, [])

    def test_by_tree(self):
        web = Web([1, 2, 3, 4, 5, 6, 9], [(3, 6), (1, 3), (1, 2), (2, 6), (2, 3), (5, 9)])
        self.check(by_tree(web), {1: None, 2: 1, 3: 1, 4: None, 5: None, 6: 2, 9: 5}, [])
        self.check(by_tree(Web([0], [])), {0: None}, [])

    def test_by_tree_the_parent_is_one_step_nearer_though_a_lesser_neighbour_is_not(self):
        # 4 is two steps from 1 over 5; its lesser neighbour 2 is three steps from 1.
        web = Web([1, 2, 4, 5], [(1, 5), (4, 5), (2, 4)])
        self.check(by_tree(web), {1: None, 2: 4, 4: 5, 5: 1}, [])

    def test_by_clusters(self):
        web = path_web([1, 2, 3, 4, 5, 6, 7])
        self.check(by_clusters(web, 1), {1: None, 2: 1, 3: None, 4: 3, 5: None, 6: 5, 7: None}, [(2, 3), (4, 5), (6, 7)])
        self.check(by_clusters(web, 2), {1: None, 2: 1, 3: 2, 4: None, 5: 4, 6: 5, 7: None}, [(3, 4), (6, 7)])
        self.check(by_clusters(web, 5), {1: None, 2: 1, 3: 2, 4: 3, 5: 4, 6: 5, 7: None}, [(6, 7)])
        self.check(by_clusters(web, 6), {1: None, 2: 1, 3: 2, 4: 3, 5: 4, 6: 5, 7: 6}, [])

    def test_steps_go_over_hands_left(self):
        # 1 takes 3 and 5, so that 2 no more comes to 6 over 5 in two steps.
        web = Web([1, 2, 3, 5, 6], [(1, 3), (3, 5), (2, 5), (5, 6)])
        self.check(by_clusters(web, 2), {1: None, 3: 1, 5: 3, 2: None, 6: None}, [(2, 5), (5, 6)])
        # With the line (2, 6) it comes to it, over hands left.
        web = Web([1, 2, 3, 5, 6], [(1, 3), (3, 5), (2, 5), (2, 6), (5, 6)])
        self.check(by_clusters(web, 2), {1: None, 3: 1, 5: 3, 2: None, 6: 2}, [(2, 5)])

    def test_the_parent_is_of_the_cluster(self):
        # 4's least neighbour 3 is of the cluster of 1, which is no cluster of 4's.
        web = Web([1, 2, 3, 4], [(1, 3), (3, 4), (2, 4)])
        self.check(by_clusters(web, 1), {1: None, 3: 1, 2: None, 4: 2}, [(3, 4)])

    def test_the_least_line_is_the_bridge(self):
        # The cluster of 1 has 8 and 9: (2, 8) and (2, 9) join it to 2, which is alone.
        web = Web([1, 2, 8, 9], [(1, 9), (2, 8), (8, 9), (2, 9), (1, 8)])
        self.check(by_clusters(web, 1), {1: None, 8: 1, 9: 1, 2: None}, [(2, 8)])
        web = Web([1, 2, 3, 4], [(1, 3), (2, 4), (3, 4), (2, 3)])
        self.check(by_clusters(web, 1), {1: None, 3: 1, 2: None, 4: 2}, [(2, 3)])

    def test_with_every_reach(self):
        for hands, lines in some_webs():
            web = Web(hands, lines)
            for reach in range(13):
                way = by_clusters(web, reach)
                parents, bridges = clusters_in_pythons_words(web, reach)
                self.check(way, parents, bridges)
                self.assertIs(lets(web, way), True)
                self.assertLessEqual(way.depth(), reach)
            self.check(by_neighbours(web), {hand: None for hand in hands}, sorted(lines))
            self.check(by_neighbours(web), *clusters_in_pythons_words(web, 0))
            self.check(by_tree(web), *clusters_in_pythons_words(web, 12))
            self.assertEqual(by_tree(web).all_bridges(), [])

    def test_every_reach_along_twelve_hands(self):
        hands = list(range(0, 24, 2))
        for reach in range(13):
            way = by_clusters(path_web(hands), reach)
            leads = [at % (reach + 1) == 0 for at in range(12)]
            above = [None if lead else hand - 2 for hand, lead in zip(hands, leads)]
            self.check(way, dict(zip(hands, above)), [(hand - 2, hand) for hand, lead in zip(hands, leads) if lead and hand])

    def test_a_long_reach(self):
        for hands, lines in some_webs():
            web = Web(hands, lines)
            for reach in (13, 40, 10 ** 20 - 1):
                way = by_clusters(web, reach)
                self.check(by_tree(web), way.all_parents(), way.all_bridges())

    def test_by_names_of_arguments(self):
        web = Web([1, 2], [(1, 2)])
        self.check(by_clusters(web=web, reach=0), {1: None, 2: None}, [(1, 2)])
        self.check(by_neighbours(web=web), {1: None, 2: None}, [(1, 2)])
        self.check(by_tree(web=web), {1: None, 2: 1}, [])


if __name__ == "__main__":
    unittest.main()
