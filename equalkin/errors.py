"""The errors of the whole package.

Each error has its arguments as attributes. The message is always a string of its own,
so that an error does not keep a list that was passed to it.
"""


class EqualkinError(ValueError):
    """What is handed in does not fit."""


class BadAlgebra(EqualkinError):
    """The members and operations make no algebra."""


class BadCount(EqualkinError):
    """There are more or fewer things than there must be."""


class BadTerm(EqualkinError):
    """A thing is no term."""


class BadText(EqualkinError):
    """A text tells no term; place counts the characters of it that could begin such a text."""

    def __init__(self, place):
        super().__init__(f"no term is told by what follows character {place}")
        self.place = place


class TooMany(EqualkinError):
    """There are more things than a call looks at."""


class NoMembers(EqualkinError):
    """There are no members."""


class NotClosed(EqualkinError):
    """An operation has a value outside of a set of members for arguments in it."""

    def __init__(self, sign, arguments):
        super().__init__(f"a value of {sign!r} lies outside")
        self.sign = sign
        self.arguments = tuple(arguments)


class MixedSigns(EqualkinError):
    """Two algebras have unlike signatures."""


class MixedMembers(EqualkinError):
    """Two algebras have unlike members."""


class MixedAlgebras(EqualkinError):
    """A map does not end in the algebra in which the next one begins."""


class BadImages(EqualkinError):
    """There are more or fewer images than there must be."""


class NotKept(EqualkinError):
    """Images do not keep an operation."""

    def __init__(self, sign, arguments):
        super().__init__(f"the images do not keep {sign!r}")
        self.sign = sign
        self.arguments = tuple(arguments)


class BadBlocks(EqualkinError):
    """Blocks do not part the members of an algebra."""


class NotLinked(EqualkinError):
    """With other in a place of the arguments the value lies in another block."""

    def __init__(self, sign, arguments, place, other):
        super().__init__(f"the values of {sign!r} with {other!r} in place {place} lie in unlike blocks")
        self.sign = sign
        self.arguments = tuple(arguments)
        self.place = place
        self.other = other


class NotKin(EqualkinError):
    """Two terms that give one row have unlike values in another algebra."""

    def __init__(self, left, right):
        super().__init__("two terms that give one row have unlike values")
        self.left = left
        self.right = right


class BadName(EqualkinError):
    """A name is no word."""

    def __init__(self, name):
        super().__init__(f"no word: {name!r}")
        self.name = name


class TwiceTold(EqualkinError):
    """A name is told a second time."""

    def __init__(self, name):
        super().__init__(f"told twice: {name!r}")
        self.name = name


class Clash(EqualkinError):
    """No members meet the equations with these labels."""

    def __init__(self, labels):
        super().__init__("no members meet all of the equations")
        self.labels = list(labels)


class NothingDone(EqualkinError):
    """There is nothing to take back."""


class NameMissing(LookupError):
    """A name leads to nothing."""


class UnknownMember(NameMissing):
    """A name is none of an algebra's members."""

    def __init__(self, name):
        super().__init__(f"no member: {name!r}")
        self.name = name


class UnknownSign(NameMissing):
    """No operation has this sign."""

    def __init__(self, name):
        super().__init__(f"no sign of an operation: {name!r}")
        self.name = name


class UnknownName(NameMissing):
    """A name is none of those that are kept."""

    def __init__(self, name):
        super().__init__(f"no name that is kept: {name!r}")
        self.name = name


class NoValue(NameMissing):
    """An unknown has no value."""

    def __init__(self, name):
        super().__init__(f"no value is given for {name!r}")
        self.name = name


class NotTold(NameMissing):
    """No equation is told by this label."""

    def __init__(self, name):
        super().__init__(f"no equation is told as {name!r}")
        self.name = name
