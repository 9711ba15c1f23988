"""The errors that the program raises; each keeps its argument as an attribute."""


class FabricError(ValueError):
    """Any error of this program."""


class BadText(FabricError):
    """A text that is not one of the grammar; at is the number of its first bad token."""

    def __init__(self, at):
        super().__init__(f"bad token {at}")
        self.at = at


class DesignError(FabricError):
    """A fault that flattening finds in a design."""


class BadNumber(DesignError):
    """A number that is out of its bounds."""

    def __init__(self, value):
        super().__init__(f"bad number {value}")
        self.value = value


class Unknown(DesignError):
    """A name that means nothing where it stands."""

    def __init__(self, name):
        super().__init__(f"unknown name {name}")
        self.name = name


class Twice(DesignError):
    """A name that is there already."""

    def __init__(self, name):
        super().__init__(f"name {name} is there already")
        self.name = name


class BadUse(DesignError):
    """A name of a kind that may not stand where it stands."""

    def __init__(self, name):
        super().__init__(f"bad use of {name}")
        self.name = name


class CheckError(FabricError):
    """A fault that the checker finds in a flat design."""


class BadWidth(CheckError):
    """Something that breaks a rule of widths."""

    def __init__(self, name):
        super().__init__(f"bad width at {name}")
        self.name = name


class TwoDrivers(CheckError):
    """A name that two statements drive."""

    def __init__(self, name):
        super().__init__(f"two statements drive {name}")
        self.name = name


class Undriven(CheckError):
    """A wire that is not set on every way."""

    def __init__(self, name):
        super().__init__(f"{name} is not set on every way")
        self.name = name


class Ring(CheckError):
    """Wires that hang on each other."""

    def __init__(self, names):
        super().__init__(f"a ring of {len(names)} wires")
        self.names = names


class LimitError(FabricError):
    """Something that is beyond a limit of the flow."""


class TooLarge(LimitError):
    """A part that is too large."""

    def __init__(self, part):
        super().__init__(f"too large: {part}")
        self.part = part


class TooMany(LimitError):
    """A part with too many things in it."""

    def __init__(self, part):
        super().__init__(f"too many: {part}")
        self.part = part


class NotRoutable(LimitError):
    """Cells whose wires do not find their ways."""

    def __init__(self):
        super().__init__("no routing was found")


class Held(FabricError):
    """A register from which tracing does not end."""

    def __init__(self, name):
        super().__init__(f"tracing does not end from {name}")
        self.name = name


class BadStream(FabricError):
    """A stream that is not one of a configuration."""

    def __init__(self, reason):
        super().__init__(f"bad stream: {reason}")
        self.reason = reason


class Looped(FabricError):
    """Tables and wires of a device that hang on each other in a ring."""

    def __init__(self, place):
        super().__init__(f"a ring through {place}")
        self.place = place


class Unlike(FabricError):
    """Two nets that cannot be compared."""

    def __init__(self):
        super().__init__("the nets cannot be compared")
