"""What leafpages refuses, an error class for each refusal."""


class LeafError(ValueError):
    pass


class NoTree(LeafError):
    pass


class There(LeafError):
    pass


class NotThere(LeafError):
    pass


class Full(LeafError):
    pass


class NoRoom(LeafError):
    pass


class NoText(LeafError):
    pass


class NoRow(LeafError):
    pass
