"""Things of other kinds, to be handed in where a refusal is told."""


class EqualToAll:
    """Says of itself that it is equal to whatever it is compared with."""

    def __eq__(self, other):
        return True

    def __hash__(self):
        return 0


class Unequalled:
    """Can be neither compared, hashed nor told true from false."""

    __hash__ = None

    def refuse(self, *others):
        raise RuntimeError("not to be asked")

    __eq__ = __ne__ = __lt__ = __le__ = __gt__ = __ge__ = __bool__ = __len__ = __repr__ = __str__ = refuse


NO_TRUTHS = [
    0, 1, -1, 2, "", "True", "False", "odd", None, [], [True], (), (True,), {}, {True: True},
    1.0, 0.0, b"", object(), EqualToAll(), Unequalled(), bool,
]
NO_HANDS = [
    None, True, False, 0, 1, -1, "", "Keeper", "STORM", "keepers", " storm", "storm ", "k", "s", "keeperstorm",
    [], ["keeper"], list("storm"), (), ("storm",), {}, {"keeper": "storm"}, {"storm"}, 1.0, b"storm", object(),
    EqualToAll(), Unequalled(), str,
]


def named(thing):
    return thing.__class__.__name__ if isinstance(thing, Unequalled) else repr(thing)
