"""Settings: the texts of halls, and the logs of what is done at them."""

from beatless.errors import BeatlessError, NoDeed, NoText
from beatless.halls import Hall
from beatless.programs import Program, is_number_word, program_text, read_row
from beatless.ways import Way, refuse_unlet
from beatless.webs import Web

# In the order in which the rows stand.
KINDS = ("hands", "line", "parent", "bridge", "start", "send", "when", "reckon", "rounds")
NEEDED = ("hands", "start", "send", "when", "reckon", "rounds")
PAIRS = ("line", "parent", "bridge")
MOST_FIGURES = 20
MOST_ROUNDS = 40
DEEDS = (("carry", 2), ("fall", 2), ("cut", 3))


def row_of(kind, numbers):
    return " ".join([kind] + [str(number) for number in numbers])


def parent_pairs(web, way):
    pairs = [(hand, way.parent_of(hand)) for hand in web.hands()]
    return [pair for pair in pairs if pair[1] is not None]


def setting_text(web, way, program, rounds):
    refuse_unlet(web, way)
    rows = [row_of("hands", web.hands())]
    rows.extend([row_of("line", line) for line in web.lines()])
    rows.extend([row_of("parent", pair) for pair in parent_pairs(web, way)])
    rows.extend([row_of("bridge", bridge) for bridge in sorted(way.all_bridges())])
    rows.append(program_text(program))
    rows.append(row_of("rounds", [rounds]))
    return "\n".join(rows)


def read_numbers(words):
    numbers = []
    for word in words:
        if not is_number_word(word) or word.startswith("-") or len(word) > MOST_FIGURES:
            return None
        numbers.append(int(word))
    return numbers


def read_kind(kind, row):
    # What a row of the kind tells, or None where it is none.
    if kind not in KINDS:
        return None
    numbers = read_numbers(row.split(" ")[1:])
    if kind == "hands":
        return numbers if numbers else None
    if kind in PAIRS:
        return tuple(numbers) if numbers is not None and len(numbers) == 2 else None
    if kind == "rounds":
        return numbers[0] if numbers is not None and len(numbers) == 1 and numbers[0] <= MOST_ROUNDS else None
    return read_row(row, kind)


def may_follow(kind, value, kind_ahead, value_ahead):
    if kind != kind_ahead:
        return KINDS.index(kind_ahead) < KINDS.index(kind)
    if kind == "parent":
        return value_ahead[0] < value[0]
    return kind in PAIRS and value_ahead < value


def read_rows(rows):
    # By kind, what its rows tell.
    found = dict([(kind, []) for kind in KINDS])
    kind_ahead = None
    for at, row in enumerate(rows):
        kind = row.split(" ")[0]
        value = read_kind(kind, row)
        if value is None:
            raise NoText(at)
        if kind_ahead is not None and not may_follow(kind, value, kind_ahead, found[kind_ahead][-1]):
            raise NoText(at)
        found[kind].append(value)
        kind_ahead = kind
    for kind in NEEDED:
        if found[kind] == []:
            raise NoText(len(rows))
    return found


def read_setting(text):
    if not isinstance(text, str):
        raise NoText(0)
    found = read_rows(text.split("\n"))
    hands = found["hands"][0]
    web = Web(hands, found["line"])
    program = Program(found["start"][0], found["send"][0], found["when"][0], found["reckon"][0])
    parents = dict([(hand, None) for hand in hands])
    parents.update(dict(found["parent"]))
    way = Way(parents, found["bridge"])
    refuse_unlet(web, way)
    return (web, way, program, found["rounds"][0])


def is_deed(deed):
    if not isinstance(deed, tuple) or len(deed) == 0 or not isinstance(deed[0], str):
        return False
    return (deed[0], len(deed)) in DEEDS


def do_deed(hall, deed):
    if deed[0] == "carry":
        hall.carry(deed[1])
    elif deed[0] == "fall":
        hall.fall(deed[1])
    else:
        hall.cut(deed[1], deed[2])


def replay(web, way, program, rounds, deeds):
    hall = Hall(web, way, program, rounds)
    for at, deed in enumerate(deeds):
        if not is_deed(deed):
            raise NoDeed(at)
        try:
            do_deed(hall, deed)
        except BeatlessError:
            raise NoDeed(at) from None
    return hall
