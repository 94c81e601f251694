"""The errors that the package raises, a class for each kind of failure."""


class CrewError(ValueError):
    """The base of all errors of the package."""


class Wrong(CrewError):
    """An argument of a constructor is not as described."""

    def __init__(self, place):
        self.place = place


class TooMany(CrewError):
    """There would be more than a limit allows."""

    def __init__(self, limit):
        self.limit = limit


class Unlike(CrewError):
    """Two things of different sizes, or of different families, do not go together."""


class NoJob(CrewError):
    """An item of a job list is not a group of its size."""

    def __init__(self, at):
        self.at = at


class NoCrew(CrewError):
    """A family without crews."""


class BadCrew(CrewError):
    """An item among the crews is not a group of the size."""

    def __init__(self, at):
        self.at = at


class Uneven(CrewError):
    """A crew has another length than the first one."""

    def __init__(self, at):
        self.at = at


class NoExchange(CrewError):
    """A person of one crew can be replaced by nobody of the other."""

    def __init__(self, one, other, person):
        self.one = one
        self.other = other
        self.person = person


class NotPlaceable(CrewError):
    """A group has no deal; short is its short part."""

    def __init__(self, group, short):
        self.group = group
        self.short = short


class NotFilled(CrewError):
    """The wanted jobs cannot be filled at once; short is their short part in the turned list."""

    def __init__(self, wanted, short):
        self.wanted = wanted
        self.short = short


class NotExplained(CrewError):
    """A family has no explanation; answer tells why."""

    def __init__(self, answer):
        self.answer = answer


class NotAlike(CrewError):
    """Two job lists do not allow the same groups; group tells them apart."""

    def __init__(self, group):
        self.group = group


class BadSighting(CrewError):
    """An item is not a sighting."""

    def __init__(self, at):
        self.at = at


class NoFamily(CrewError):
    """The groups that were answered with True are not those of a family."""

    def __init__(self, one, other):
        self.one = one
        self.other = other


class NotInTeam(CrewError):
    """A person is not a member of the crew at work."""

    def __init__(self, person):
        self.person = person


class NoSwap(CrewError):
    """A newcomer does not make a crew in the place of a person."""

    def __init__(self, person, newcomer):
        self.person = person
        self.newcomer = newcomer


class Nothing(CrewError):
    """There is nothing to take back or to do again."""


class NoEntry(CrewError):
    """There is no entry with this number."""

    def __init__(self, at):
        self.at = at


class NoText(CrewError):
    """A text is not of the form that is read."""

    def __init__(self, text):
        self.text = text


class NoCommand(CrewError):
    """A line is not a command."""

    def __init__(self, line):
        self.line = line
