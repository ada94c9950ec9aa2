"""The refusals of the judge and of the reckoning, all of them below KindError."""


class KindError(ValueError):
    """Any refusal."""


class Unsure(KindError):
    """A program that the judge does not let by."""


class Stuck(KindError):
    """A program that no judge has let by comes to where it cannot go on."""


class Stopped(KindError):
    """A program that a judge may have let by comes to a number that there is not."""


class NoName(Unsure):
    """A name that is not there, or a deed that is not told ahead."""


class NotSo(Unsure):
    """A kind of another make than what is asked there."""


class NoField(Unsure):
    """A field that the record's kind has not."""


class Uncovered(Unsure):
    """A case whose rows lack a shape of the choice's kind."""


class Unlike(Unsure):
    """Kinds without a meeting."""


class Unsteady(Unsure):
    """An again whose kind does not come to rest."""


class LostName(Stuck):
    """A name that is not there, or a deed that is not told ahead."""


class LostField(Stuck):
    """A field that the record has not."""


class LostShape(Stuck):
    """A choice's shape that no row has."""


class Misfit(Stuck):
    """A value that is not what is asked there."""


class ByNought(Stopped):
    """A quotient by nought."""


class TooGreat(Stopped):
    """A number beyond the bounds."""
