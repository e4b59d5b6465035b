"""The refusals, each a class of its own straight under the base."""


class UsherError(ValueError):
    pass


class Twice(UsherError):
    pass


class Unknown(UsherError):
    pass


class NoServer(UsherError):
    pass


class NoRoom(UsherError):
    pass


class NoLine(UsherError):
    pass
