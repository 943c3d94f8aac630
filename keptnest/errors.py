"""The refusals, one class for each."""


class NestError(ValueError):
    pass


class NoValue(NestError):
    pass


class NoQuestion(NestError):
    pass


class NoDifference(NestError):
    pass


class NoChange(NestError):
    pass


class NoKind(NestError):
    def __init__(self, path):
        NestError.__init__(self, path)
        self.path = path


class NoTurning(NestError):
    pass


class NoFlat(NestError):
    pass


class NoPlan(NestError):
    pass


class NoKeep(NestError):
    pass


class NoAsk(NestError):
    pass
