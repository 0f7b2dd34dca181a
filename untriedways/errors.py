"""The errors of the package."""


class WayError(ValueError):
    """All errors of the package are of this kind."""


class NoStanding(WayError):
    """A value that is not a standing of the map or the cookery."""


class NoTry(WayError):
    """A value that is not a try of the standing."""


class NoNews(WayError):
    """News that are no flag, or that no standing comes of."""


class NoWorld(WayError):
    """A value that is not a world."""


class Done(WayError):
    """Something more is asked of a standing that is done."""


class NoTries(WayError):
    """A value that is not a lot of one or more tries."""


class NoRun(WayError):
    """A value that is not a run of the map."""


class NoPlan(WayError):
    """A plan or a maker that gives something wrong."""


class NoName(WayError):
    """A value that is not the name of a plan."""


class NoPart(WayError):
    """A value that is not a part of the map."""


class NoNumber(WayError):
    """A value that is not a number of the kind that is asked for."""


class ManyGoals(WayError):
    """A map with several goals where one is asked for."""


class NoWays(WayError):
    """A value that is not a list of ways."""


class NoFacts(WayError):
    """A value that is not a tuple of clauses."""


class NoWorlds(WayError):
    """Facts that no world fits."""


class NoPrices(WayError):
    """A value that is not a tuple of prices."""


class NoChances(WayError):
    """A value that is not a tuple of chances."""


class NoStack(WayError):
    """A value that is not a stack."""


class NoArrow(WayError):
    """A value that is not an arrow of the map."""


class NoPlace(WayError):
    """A value that is not a place of the kind that is asked for."""


class NotDone(WayError):
    """A run behind which the standing is not done."""


class NotSensible(WayError):
    """A run with an arrow that was not worth a try."""


class HasRing(WayError):
    """Recipes that make a ring."""


class NoText(WayError):
    """A value that is not the text of a map or a run."""


class NoLine(WayError):
    """A value that is not a line for the desk."""


class NothingDone(WayError):
    """Nothing is there that could be taken back."""


class NoMap(WayError):
    """The field names the first part of a map that is not as described."""

    def __init__(self, part):
        # The message leaves the field out: a field may be a value that cannot be written out.
        WayError.__init__(self, "this is no map")
        self.part = part


class NoCookery(WayError):
    """The field names the first part of a cookery that is not as described."""

    def __init__(self, part):
        WayError.__init__(self, "this is no cookery")
        self.part = part


class TooMany(WayError):
    """The field tells the most that would have been taken."""

    def __init__(self, most):
        WayError.__init__(self, "there are too many")
        self.most = most
