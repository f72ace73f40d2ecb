"""The refusals: one class for each, all of them under DuskError."""


class DuskError(ValueError):
    pass


class NoBook(DuskError):
    pass


class NoHands(DuskError):
    pass


class Over(DuskError):
    pass


class NoLight(DuskError):
    pass


class NoneSettled(DuskError):
    pass


class NoTable(DuskError):
    pass


class NoPage(DuskError):
    pass


class NoPaper(DuskError):
    pass
