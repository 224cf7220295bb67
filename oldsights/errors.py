"""All errors of the package: each one stands right below SightsError, none below another."""


class SightsError(ValueError):
    """An argument is not what it must be."""


class NoBook(SightsError):
    """This is not a book."""


class NoState(SightsError):
    """This is not a state of the book."""


class NoRow(SightsError):
    """This is not a row of the book."""


class NoMarks(SightsError):
    """These are not marks of the book."""


class NoDeed(SightsError):
    """This is not the number of a kind that is a deed."""


class NoTrial(SightsError):
    """These two are not a trial of the deed."""


class NoLog(SightsError):
    """This is not a log of the book."""


class NoKinds(SightsError):
    """These are not numbers of kinds of the book."""


class NoWaiting(SightsError):
    """These are not states of the book."""


class NoTold(SightsError):
    """These are not told trials of the deed."""


class NoKind(SightsError):
    """This is not the number of a kind that is out."""


class NoHelper(SightsError):
    """This is not a helper."""


class NoLate(SightsError):
    """This does not tell how late a look is."""


class NoNumber(SightsError):
    """This is not the number of a happening."""


class NoText(SightsError):
    """This is not such a text; line is the number, from 1, of the first line that cannot stand."""

    def __init__(self, line):
        super().__init__(f"line {line} cannot stand")
        self.line = line
