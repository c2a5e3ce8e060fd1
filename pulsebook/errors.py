"""The refusals of pulsebook, one class for each."""


class PulseError(ValueError):
    pass


class BadForm(PulseError):
    pass


class NotTight(PulseError):
    pass


class TooLong(PulseError):
    pass


class BadList(PulseError):
    pass


class BadWalk(PulseError):
    pass


class BadText(PulseError):
    pass


class BadRule(PulseError):

    def __init__(self, at):
        PulseError.__init__(self, "this is no list of rules")
        self.at = at
