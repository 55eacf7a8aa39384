"""The errors of the package: all are directly below HandError."""


class HandError(ValueError):
    """What all errors of the package are."""


class BadAnswer(HandError):
    """What is answered at corner is no number that is let."""

    def __init__(self, corner):
        HandError.__init__(self, "no number that is let is answered at a corner")
        self.corner = corner


class BadBag(HandError):
    """This is no bag, or no key of the plain task."""


class BadBlocks(HandError):
    """These are no blocks of the hands."""


class BadCells(HandError):
    """This is no Cells."""


class BadChain(HandError):
    """The answers of the one task are no inputs of the other."""


class BadChoice(HandError):
    """This is no choice."""


class BadCorner(HandError):
    """This is no corner of the kind that is asked for."""


class BadCount(HandError):
    """This is no number that can be counted to here."""


class BadCourse(HandError):
    """This is no course of the hands."""


class BadCutting(HandError):
    """This is no cutting of the surface."""


class BadFace(HandError):
    """This is no face of the row."""


class BadFading(HandError):
    """This is no fading course of the hands."""


class BadFamily(HandError):
    """This is no Family."""


class BadFull(HandError):
    """The course does not get all numbers."""


class BadGuests(HandError):
    """These are no guests to hold up."""


class BadHand(HandError):
    """This is no hand of those that are meant."""


class BadHands(HandError):
    """These are no hands, ascending, of those that are meant."""


class BadHost(HandError):
    """This is no host."""


class BadInput(HandError):
    """This row is no input of the task."""


class BadKnown(HandError):
    """No hand can know this."""


class BadLooks(HandError):
    """This is no number of looks."""


class BadLoop(HandError):
    """The way does not end where it begins."""


class BadMany(HandError):
    """This is no number of hands."""


class BadMarks(HandError):
    """These are no marks of the loop."""


class BadMoment(HandError):
    """This is no moment of the rounds."""


class BadMost(HandError):
    """This is no number of values that may be unlike."""


class BadNumber(HandError):
    """What is told at corner is no hand that is let."""

    def __init__(self, corner):
        HandError.__init__(self, "no hand that is let is told at a corner")
        self.corner = corner


class BadOrder(HandError):
    """This is no sequence of the row's hands."""


class BadOther(HandError):
    """This is no hand that is known of."""


class BadPair(HandError):
    """These two do not go together."""


class BadPaper(HandError):
    """This is no paper of the kind that is asked for."""


class BadPapers(HandError):
    """These are no papers of the kind that is asked for."""


class BadPicks(HandError):
    """These are no picks of the family."""


class BadPlace(HandError):
    """This is no place."""


class BadPlaces(HandError):
    """This is no number of places."""


class BadPlain(HandError):
    """This is no table of a plain task."""


class BadPoint(HandError):
    """This is no point of a triangle."""


class BadPosition(HandError):
    """This is no position of the hand."""


class BadPush(HandError):
    """The push of number at can't be done."""

    def __init__(self, at):
        HandError.__init__(self, "a push can't be done")
        self.at = at


class BadRenaming(HandError):
    """This is no renaming, or none of the task."""


class BadRounds(HandError):
    """This is no number of rounds."""


class BadRow(HandError):
    """This is no row."""


class BadSaying(HandError):
    """What the rule returns for hand is nothing that is let."""

    def __init__(self, hand):
        HandError.__init__(self, "a rule returns nothing that is let")
        self.hand = hand


class BadSets(HandError):
    """These are no sets of a family."""


class BadSights(HandError):
    """These are no sights of the hands."""


class BadSize(HandError):
    """This is no size of a face."""


class BadSurface(HandError):
    """This is no surface of the kind that is asked for."""


class BadTable(HandError):
    """This is no table of a task."""


class BadTask(HandError):
    """This is no Task."""


class BadText(HandError):
    """The line of this number is not of the form that is read."""

    def __init__(self, line):
        HandError.__init__(self, "a text is not of the form that is read")
        self.line = line


class BadTies(HandError):
    """These are no ties of the places."""


class BadTop(HandError):
    """This is no top."""


class BadValues(HandError):
    """These are no values."""


class BadView(HandError):
    """This is no view of the hand."""


class BadViews(HandError):
    """This is no dict from the hands to views."""


class BadWay(HandError):
    """This is no way on the surface."""


class BadWeaving(HandError):
    """This is no weaving of the hands."""


class Crossed(HandError):
    """The way goes over a crossed tie."""


class Enough(HandError):
    """The rounds are enough for the task."""


class NoRefutation(HandError):
    """This is no refutation of the task."""


class NoTable(HandError):
    """This is no table of the task for the rounds, or there is none."""


class NotClosed(HandError):
    """The family is not closed."""


class NotEnough(HandError):
    """The rounds are not enough for the task."""


class NotSlim(HandError):
    """An input of the task has more than two hands."""


class OtherCount(HandError):
    """The two courses have unlike numbers of rounds."""


class TooMany(HandError):
    """There are more than most."""

    def __init__(self, most):
        HandError.__init__(self, "there are too many")
        self.most = most


class Undrawn(HandError):
    """The loop can't be drawn together, as paper shows."""

    def __init__(self, paper):
        HandError.__init__(self, "the loop can't be drawn together")
        self.paper = paper
