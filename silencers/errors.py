"""All errors of the package; a field keeps the very thing that it was passed."""


class WebError(ValueError):
    """What all errors of the package are."""


class BadWeb(WebError):
    """What was to be a web is none: part is "size", "ties" or the number of the wrong tie."""

    def __init__(self, part):
        self.part = part


class NoPart(WebError):
    """What was to be a part is none."""

    def __init__(self):
        pass


class NoNames(WebError):
    """What was to be the names of all parts is not."""

    def __init__(self):
        pass


class NoLot(WebError):
    """What was to be a lot is none."""

    def __init__(self):
        pass


class NoNumber(WebError):
    """What was to be a number is none, or out of bounds."""

    def __init__(self):
        pass


class BadText(WebError):
    """A text is not written as it should be; line is the first wrong one, 0 for no string."""

    def __init__(self, line):
        self.line = line


class NoStand(WebError):
    """What was to be a stand is none."""

    def __init__(self):
        pass


class NoRow(WebError):
    """What was to be a row of calls is none."""

    def __init__(self):
        pass


class NoRest(WebError):
    """What was to be a rest is none."""

    def __init__(self):
        pass


class TooMany(WebError):
    """There are more than most."""

    def __init__(self, most):
        self.most = most


class BadList(WebError):
    """What was to be a list is none: part is "places", "stands" or the number of the wrong stand."""

    def __init__(self, part):
        self.part = part


class NoShowing(WebError):
    """What was to be a showing is none."""

    def __init__(self):
        pass


class NotShown(WebError):
    """No web shows the list."""

    def __init__(self):
        pass


class OtherPlaces(WebError):
    """Two lists have unlike numbers of places."""

    def __init__(self):
        pass


class NoStands(WebError):
    """No stand is left for a list."""

    def __init__(self):
        pass


class NoStroke(WebError):
    """What was to be a stroke is none."""

    def __init__(self):
        pass


class NoCourse(WebError):
    """What was to be a course is none."""

    def __init__(self):
        pass


class NoLetters(WebError):
    """What was to be letters is none."""

    def __init__(self):
        pass


class NoLog(WebError):
    """What was to be a log is none."""

    def __init__(self):
        pass


class OtherSize(WebError):
    """A log is of another number of parts."""

    def __init__(self):
        pass


class NoWeb(WebError):
    """No web fits the log."""

    def __init__(self):
        pass


class BadNet(WebError):
    """What was to be a net is none: part is "size", "arrows" or the number of the wrong arrow."""

    def __init__(self, part):
        self.part = part


class NoBlock(WebError):
    """What was to be a block is none."""

    def __init__(self):
        pass


class NothingDone(WebError):
    """There is nothing to take back."""

    def __init__(self):
        pass


class BadCall(WebError):
    """Of this stand a stranger tells no part."""

    def __init__(self, stand):
        self.stand = stand


class NoLine(WebError):
    """What was to be a line is none."""

    def __init__(self):
        pass


class NoName(WebError):
    """Nothing is kept under this name."""

    def __init__(self, name):
        self.name = name
