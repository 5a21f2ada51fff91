"""Programs: what hands send and reckon, and the texts of programs."""

from beatless.errors import NoProgram, NoText
from beatless.exprs import Less, Mod, Name, Num, Two
from beatless.wholes import is_whole

START_NAMES = ("me", "lines")
SEND_NAMES = ("worth", "me", "round", "lines", "to")
RENEW_NAMES = ("worth", "me", "round", "lines", "sum", "least", "most", "count")
ALL_NAMES = ("worth", "me", "round", "lines", "to", "sum", "least", "most", "count")
TWO_WORDS = ("add", "sub", "min", "max")
ROW_WORDS = ("start", "send", "when", "reckon")
PARTS = {"add": 2, "sub": 2, "min": 2, "max": 2, "mod": 2, "less": 4}
FIGURES = "0123456789"
MOST_WORDS = 60
MOST_DEEP = 8


def is_short_number(value):
    return is_whole(value) and abs(value) < 10 ** 20


def is_word_of(word, words):
    return isinstance(word, str) and word in words


def is_divisor(number):
    return is_whole(number) and number >= 1 and number <= 10 ** 9


def are_sound(parts, names, deep):
    for part in parts:
        if not is_sound(part, names, deep):
            return False
    return True


def is_sound(expr, names, deep):
    # The depth is asked first, so that no expression leads further down than is let by.
    if deep == 0:
        return False
    if isinstance(expr, Num):
        return is_short_number(expr.value)
    if isinstance(expr, Name):
        return is_word_of(expr.word, names)
    if isinstance(expr, Two):
        return is_word_of(expr.word, TWO_WORDS) and are_sound([expr.one, expr.other], names, deep - 1)
    if isinstance(expr, Mod):
        return is_divisor(expr.number) and is_sound(expr.inner, names, deep - 1)
    if isinstance(expr, Less):
        return are_sound([expr.one, expr.other, expr.third, expr.fourth], names, deep - 1)
    return False


def count_words(exprs):
    return sum([len(expr.words()) for expr in exprs])


class Program:
    def __init__(self, start, send, when, renew):
        if not is_sound(start, START_NAMES, MOST_DEEP):
            raise NoProgram("start is no expression that is let by")
        if not are_sound([send, when], SEND_NAMES, MOST_DEEP):
            raise NoProgram("send or when is no expression that is let by")
        if not is_sound(renew, RENEW_NAMES, MOST_DEEP):
            raise NoProgram("reckon is no expression that is let by")
        if count_words([start, send, when, renew]) > MOST_WORDS:
            raise NoProgram("a program has at most 60 words")
        self.start = start
        self.send = send
        self.when = when
        self.renew = renew

    def first_worth(self, hand, lines):
        return self.start.reckon({"me": hand, "lines": lines})

    def word_to(self, worth, hand, turn, lines, other):
        worths = {"worth": worth, "me": hand, "round": turn, "lines": lines, "to": other}
        if self.when.reckon(worths) > 0:
            return self.send.reckon(worths)
        return None

    def next_worth(self, worth, hand, turn, lines, heard):
        worths = {"worth": worth, "me": hand, "round": turn, "lines": lines}
        worths["sum"] = sum(heard)
        worths["least"] = min(heard, default=0)
        worths["most"] = max(heard, default=0)
        worths["count"] = len(heard)
        return self.renew.reckon(worths)


def program_text(program):
    exprs = [program.start, program.send, program.when, program.renew]
    return "\n".join([" ".join([first] + expr.words()) for first, expr in zip(ROW_WORDS, exprs)])


def is_number_word(word):
    figures = word[1:] if word.startswith("-") else word
    for figure in figures:
        if figure not in FIGURES:
            return False
    # A number that begins with 0 is 0 itself, and there is no -0.
    return figures != "" and (word == "0" or not figures.startswith("0"))


def number_of(word):
    # Python reads no text of thousands of figures. A number of more than twenty is refused
    # by the program however it goes on, so that its first signs will do.
    return int(word[:22])


def read_part(word, parts):
    if word in ALL_NAMES:
        return Name(word)
    if is_number_word(word):
        return Num(number_of(word))
    if word not in PARTS or len(parts) < PARTS[word]:
        return None
    if word == "less":
        return Less(parts[0], parts[1], parts[2], parts[3])
    if word == "mod":
        return Mod(parts[0], parts[1].value) if isinstance(parts[1], Num) else None
    return Two(word, parts[0], parts[1])


def read_words(words):
    # From the last word to the first, so that each word finds its parts read, and depth costs no recursion.
    parts = []
    for word in reversed(words):
        part = read_part(word, parts)
        if part is None:
            return None
        parts = [part] + parts[PARTS.get(word, 0):]
    return parts[0] if len(parts) == 1 else None


def read_row(row, first):
    words = row.split(" ")
    return read_words(words[1:]) if words[0] == first else None


def read_program(text):
    if not isinstance(text, str):
        raise NoText(0)
    rows = text.split("\n")
    exprs = []
    for at, first in enumerate(ROW_WORDS):
        expr = read_row(rows[at], first) if at < len(rows) else None
        if expr is None:
            raise NoText(at)
        exprs.append(expr)
    if len(rows) > len(ROW_WORDS):
        raise NoText(len(ROW_WORDS))
    return Program(exprs[0], exprs[1], exprs[2], exprs[3])
