"""The refusals of the program, one class for each."""


class KinError(ValueError):
    pass


class NoTable(KinError):
    pass


class NoClass(KinError):
    pass


class NoWalk(KinError):
    pass


class NoRule(KinError):
    pass


class NoPerson(KinError):
    pass


class NoParents(KinError):
    pass


class TooMany(KinError):
    pass


class BadNote(KinError):
    pass
