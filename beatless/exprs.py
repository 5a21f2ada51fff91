"""Expressions: made of anything, looked at by programs alone."""


class Expr:
    pass


class Num(Expr):
    def __init__(self, value):
        self.value = value

    def reckon(self, worths):
        return self.value

    def told(self):
        return ("num", self.value)

    def words(self):
        return [str(self.value)]


class Name(Expr):
    def __init__(self, word):
        self.word = word

    def reckon(self, worths):
        return worths[self.word]

    def told(self):
        return ("name", self.word)

    def words(self):
        return [self.word]


class Two(Expr):
    def __init__(self, word, one, other):
        self.word = word
        self.one = one
        self.other = other

    def reckon(self, worths):
        one = self.one.reckon(worths)
        other = self.other.reckon(worths)
        if self.word == "add":
            return one + other
        if self.word == "sub":
            return one - other
        if self.word == "min":
            return min(one, other)
        return max(one, other)

    def told(self):
        return (self.word, self.one.told(), self.other.told())

    def words(self):
        return [self.word] + self.one.words() + self.other.words()


class Mod(Expr):
    def __init__(self, inner, number):
        self.inner = inner
        self.number = number

    def reckon(self, worths):
        return self.inner.reckon(worths) % self.number

    def told(self):
        return ("mod", self.inner.told(), self.number)

    def words(self):
        return ["mod"] + self.inner.words() + [str(self.number)]


class Less(Expr):
    def __init__(self, one, other, third, fourth):
        self.one = one
        self.other = other
        self.third = third
        self.fourth = fourth

    def reckon(self, worths):
        if self.one.reckon(worths) < self.other.reckon(worths):
            return self.third.reckon(worths)
        return self.fourth.reckon(worths)

    def told(self):
        return ("less", self.one.told(), self.other.told(), self.third.told(), self.fourth.told())

    def words(self):
        return ["less"] + self.one.words() + self.other.words() + self.third.words() + self.fourth.words()
