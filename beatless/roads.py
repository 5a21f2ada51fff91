"""Roads: over which hands the word that a neighbour is through a round comes to a hand."""

from beatless.ways import is_grounded, refuse_unlet
from beatless.wholes import is_whole


def road_within(way, hand, neighbour):
    down = list(reversed(way.path_up(hand)))
    # Up and down meet at the leader, which stands once.
    return way.path_up(neighbour) + down[1:]


def road_over(way, hand, neighbour, bridge):
    return road_within(way, bridge[0], neighbour) + road_within(way, hand, bridge[1])


def bridges_by_leaders(way):
    # Each bridge in both directions, under the leaders from which and to which it leads; least bridges first.
    found = {}
    for one, other in sorted(way.all_bridges()):
        found.setdefault((way.leader(one), way.leader(other)), []).append((one, other))
        found.setdefault((way.leader(other), way.leader(one)), []).append((other, one))
    return found


def roads_for(way, bridges, hand, neighbour):
    leaders = (way.leader(neighbour), way.leader(hand))
    if leaders[0] == leaders[1]:
        return [road_within(way, hand, neighbour)]
    return [road_over(way, hand, neighbour, bridge) for bridge in bridges.get(leaders, [])]


def pairs_of(web):
    pairs = []
    for one, other in web.lines():
        pairs.append((one, other))
        pairs.append((other, one))
    return pairs


def roads(web, way):
    refuse_unlet(web, way)
    bridges = bridges_by_leaders(way)
    paper = {}
    for hand, neighbour in pairs_of(web):
        paper[(hand, neighbour)] = roads_for(way, bridges, hand, neighbour)[0]
    return paper


def are_wholes(values):
    for value in values:
        if not is_whole(value):
            return False
    return True


def has_just_pairs(paper, pairs):
    # True equals 1, so that a key may be found that is no tuple of hands.
    for key in paper:
        if not isinstance(key, tuple) or not are_wholes(key) or key not in pairs:
            return False
    return len(paper) == len(pairs)


def holds(web, way, paper):
    pairs = pairs_of(web)
    if not is_grounded(web, way) or not isinstance(paper, dict) or not has_just_pairs(paper, pairs):
        return False
    bridges = bridges_by_leaders(way)
    for hand, neighbour in pairs:
        road = paper[(hand, neighbour)]
        if not isinstance(road, list) or not are_wholes(road):
            return False
        if road not in roads_for(way, bridges, hand, neighbour):
            return False
    return True
