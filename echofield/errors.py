"""The refusals, each straight under EchoError."""


class EchoError(ValueError):
    pass


class NoField(EchoError):
    pass


class NoMoment(EchoError):
    pass


class NoRecord(EchoError):
    pass


class TooMany(EchoError):
    pass


class BadText(EchoError):
    pass
