"""Ways: clusters of hands under leaders, and the bridges between clusters."""

from beatless.errors import NoWay
from beatless.wholes import is_whole


def copied(value):
    # A way is made of any dict and list: what lies within may be a list or dict too, and is not kept either.
    if isinstance(value, list):
        return [copied(each) for each in value]
    if isinstance(value, tuple):
        return tuple([copied(each) for each in value])
    if isinstance(value, dict):
        return dict([(key, copied(each)) for key, each in value.items()])
    return value


class Way:
    def __init__(self, parents, bridges):
        self.own_parents = copied(parents)
        self.own_bridges = copied(bridges)

    def parent_of(self, hand):
        # Not every value can be looked up in a dict, and True would be found where 1 stands.
        for each, parent in self.own_parents.items():
            if is_whole(each) == is_whole(hand) and each == hand:
                return copied(parent)
        return None

    def all_parents(self):
        return copied(self.own_parents)

    def all_bridges(self):
        return copied(self.own_bridges)

    def path_up(self, hand):
        path = [hand]
        above = self.own_parents.get(hand)
        # A way that is not let by may lead round in a ring: it is walked once.
        while above is not None and above not in path:
            path.append(above)
            above = self.own_parents.get(above)
        return path

    def leader(self, hand):
        return self.path_up(hand)[-1]

    def depth_of(self, hand):
        return len(self.path_up(hand)) - 1

    def depth(self):
        return max([self.depth_of(hand) for hand in self.own_parents])

    def children(self, hand):
        return sorted([each for each, parent in self.own_parents.items() if parent == hand])

    def bridges_at(self, hand):
        ends = []
        for one, other in self.own_bridges:
            if one == hand:
                ends.append(other)
            if other == hand:
                ends.append(one)
        return sorted(ends)


def are_parents(web, parents):
    if not isinstance(parents, dict) or len(parents) != len(web.hands()):
        return False
    for hand, parent in parents.items():
        if not web.has_hand(hand):
            return False
        if parent is not None and not web.has_line(hand, parent):
            return False
    return True


def come_to_leaders(web, way):
    for hand in web.hands():
        if way.parent_of(way.leader(hand)) is not None:
            return False
    return True


def is_bridge(web, way, bridge):
    if not isinstance(bridge, tuple) or len(bridge) != 2:
        return False
    if not web.has_line(bridge[0], bridge[1]) or bridge[0] > bridge[1]:
        return False
    return way.leader(bridge[0]) != way.leader(bridge[1])


def are_bridges(web, way, bridges):
    if not isinstance(bridges, list):
        return False
    seen = {}
    for bridge in bridges:
        if not is_bridge(web, way, bridge) or bridge in seen:
            return False
        seen[bridge] = True
    return True


def is_grounded(web, way):
    # All that lets asks but that clusters are bridged, which a paper of roads shows by itself.
    if not isinstance(way, Way) or not are_parents(web, way.all_parents()):
        return False
    return come_to_leaders(web, way) and are_bridges(web, way, way.all_bridges())


def first_joins(way, lines):
    # From the leaders of each two clusters that a line joins to the first such line.
    found = {}
    for one, other in lines:
        leaders = tuple(sorted([way.leader(one), way.leader(other)]))
        if leaders[0] != leaders[1]:
            found.setdefault(leaders, (one, other))
    return found


def lets(web, way):
    if not is_grounded(web, way):
        return False
    bridged = first_joins(way, way.all_bridges())
    for leaders in first_joins(way, web.lines()):
        if leaders not in bridged:
            return False
    return True


def refuse_unlet(web, way):
    if not lets(web, way):
        raise NoWay("the way is not let by for the web")


def next_ring(web, left, parents, ring):
    # The ring rises, so that the first of it that has a hand as a neighbour is the least one that has it.
    found = {}
    for hand in ring:
        for other in web.neighbours(hand):
            if other in left and other not in parents:
                found.setdefault(other, hand)
    return found


def parents_in_cluster(web, left, reach):
    parents = {left[0]: None}
    ring = [left[0]]
    steps = 0
    # A reach may have twenty figures; a cluster ends where no hand is found.
    while ring and steps < reach:
        found = next_ring(web, left, parents, ring)
        parents.update(found)
        ring = sorted(found)
        steps += 1
    return parents


def by_clusters(web, reach):
    parents = {}
    left = web.hands()
    while left:
        parents.update(parents_in_cluster(web, left, reach))
        left = [hand for hand in left if hand not in parents]
    # A web tells its lines sorted, so that the first ones are the least ones.
    joins = first_joins(Way(parents, []), web.lines())
    return Way(parents, sorted(joins.values()))


def by_neighbours(web):
    return by_clusters(web, 0)


def by_tree(web):
    return by_clusters(web, len(web.hands()))
