"""The refusals of the package, each with its fields."""


class WeaveError(ValueError):
    """Any refusal but Busy and Spoilt."""


class Busy(RuntimeError):
    """A change was asked for while rounds are being run."""


class Spoilt(ArithmeticError):
    """A deed refuses its firing; why is its reason."""

    def __init__(self, why=""):
        # Handed on, so that the message is there even where why came by its name.
        ArithmeticError.__init__(self, why)
        self.why = why


class NoNode(WeaveError):
    """An argument, field, of which no node can be made."""

    def __init__(self, field):
        self.field = field


class NoSteps(WeaveError):
    """What should be a number of steps and is none."""


class TooMany(WeaveError):
    """More nodes or wires than a weave may have."""


class NoName(WeaveError):
    """What stands for a name, who, is none."""

    def __init__(self, who):
        self.who = who


class Twice(WeaveError):
    """A name, who, that came ahead already."""

    def __init__(self, who):
        self.who = who


class Unknown(WeaveError):
    """What was asked for, who, is none of the names."""

    def __init__(self, who):
        self.who = who


class NoPlace(WeaveError):
    """The wire of this number leads from an outlet, or to no place of its goal."""

    def __init__(self, wire):
        self.wire = wire


class NoDelay(WeaveError):
    """The delay of the wire of this number is none."""

    def __init__(self, wire):
        self.wire = wire


class Taken(WeaveError):
    """The wire of this number leads to a place to which a wire ahead of it leads."""

    def __init__(self, wire):
        self.wire = wire


class Bare(WeaveError):
    """No wire leads to this place of the node who."""

    def __init__(self, who, place):
        self.who = who
        self.place = place


class Unfed(WeaveError):
    """The node who is reached from no inlet."""

    def __init__(self, who):
        self.who = who


class Clash(WeaveError):
    """There are no counts: they do not come home round the walk."""

    def __init__(self, walk):
        self.walk = list(walk)


class Ringed(WeaveError):
    """The wires of a ring, told by their numbers, stand in the way."""

    def __init__(self, ring):
        self.ring = list(ring)


class Stuck(Ringed):
    """No round can be fired to its end; fired tells how often each node was."""

    def __init__(self, fired, ring):
        Ringed.__init__(self, ring)
        self.fired = list(fired)


class Tight(Ringed):
    """There is no stretch for so many rounds."""


class Knot(Ringed):
    """A ring goes through nodes of unlike counts."""


class Short(Ringed):
    """There is too little delay round a ring."""


class NoInlet(WeaveError):
    """What was asked for, who, is no inlet."""

    def __init__(self, who):
        self.who = who


class NoOutlet(WeaveError):
    """What was asked for, who, is no outlet."""

    def __init__(self, who):
        self.who = who


class NoSample(WeaveError):
    """What was handed in is no list of the samples that are wanted."""


class NoWire(WeaveError):
    """What was asked for is the number of no wire."""


class NoCount(WeaveError):
    """What should be a number of rounds and is none."""


class Starved(WeaveError):
    """The node who is not ready to be fired."""

    def __init__(self, who):
        self.who = who


class NoGain(WeaveError):
    """The node who is no gain."""

    def __init__(self, who):
        self.who = who


class Unlike(WeaveError):
    """What goes by the name who is unlike what it has to be like."""

    def __init__(self, who):
        self.who = who


class Fading(WeaveError):
    """A fade was asked for while another one goes on."""


class NotLinear(WeaveError):
    """The node who does not only scale, mix, keep and hold back."""

    def __init__(self, who):
        self.who = who


class NoText(WeaveError):
    """No text of a weave, or a weave that has none."""


class NoRow(WeaveError):
    """What a desk was told is no row."""


class NoSuch(WeaveError):
    """A desk keeps nothing by the word who."""

    def __init__(self, who):
        self.who = who
