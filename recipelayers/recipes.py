"""Recipes: the stages in which a tree is built."""

from recipelayers.errors import NoStage, TooMany, Wrong
from recipelayers.kinds import is_name
from recipelayers.stepparts import arguments_in, source_of
from recipelayers.steps import is_step

MOST_STAGES = 3
MOST_STEPS = 8
MOST_RUNS = 4


class Recipe:
    """A list of stages (name, start, steps), the last of which makes the tree."""

    def __init__(self, stages):
        if not are_stages(stages):
            raise Wrong(0)
        name = first_unready(stages)
        if name is not None:
            raise NoStage(name)
        if len([step for _, _, steps in stages for step in steps if step[0] == "run"]) > MOST_RUNS:
            raise TooMany(MOST_RUNS)
        self._stages = [(told, start, list(steps)) for told, start, steps in stages]

    def __eq__(self, other):
        return isinstance(other, Recipe) and self._stages == other._stages

    def __len__(self):
        return len([step for _, _, steps in self._stages for step in steps])

    def __repr__(self):
        return f"Recipe({self._stages!r})"

    def stages(self):
        """The list of the stages."""
        return [(name, start, list(steps)) for name, start, steps in self._stages]

    def start(self, name):
        """The start of a stage."""
        return self._stage(name)[1]

    def steps(self, name):
        """The list of the steps of a stage."""
        return list(self._stage(name)[2])

    def last(self):
        """The name of the last stage."""
        return self._stages[-1][0]

    def inputs(self):
        """The names of the inputs that starts and sources tell, in ascending order."""
        names = [name for stage in self._stages for name in names_called(stage)]
        return sorted({name for name in names if not self._has(name)})

    def arguments(self):
        """The names of the arguments that steps tell, in ascending order."""
        return sorted({name for _, _, steps in self._stages for step in steps for name in arguments_in(step)})

    def with_steps(self, name, steps):
        """The Recipe with other steps in a stage."""
        if not is_name(name):
            raise Wrong(0)
        if not are_steps(steps):
            raise Wrong(1)
        if not self._has(name):
            raise NoStage(name)
        return Recipe([(told, start, steps if told == name else old) for told, start, old in self._stages])

    def _has(self, name):
        """Whether a stage has this name."""
        return name in [told for told, _, _ in self._stages]

    def _stage(self, name):
        """The stage of this name."""
        for stage in self._stages:
            if stage[0] == name:
                return stage
        raise NoStage(name)


def are_stages(thing):
    """Whether thing is what a Recipe is made of, but for names that are not ready and runs that are too many."""
    if not isinstance(thing, list) or not 1 <= len(thing) <= MOST_STAGES:
        return False
    return all([is_stage(stage) for stage in thing]) and len({stage[0] for stage in thing}) == len(thing)


def is_stage(thing):
    """Whether thing is a stage of any start."""
    if not isinstance(thing, tuple) or len(thing) != 3 or not is_name(thing[0]):
        return False
    return (thing[1] is None or is_name(thing[1])) and are_steps(thing[2])


def are_steps(thing):
    """Whether thing is the list of the steps of a stage."""
    return isinstance(thing, list) and len(thing) <= MOST_STEPS and all([is_step(step) for step in thing])


def names_called(stage):
    """The names that a stage calls, the start ahead of the sources of its steps."""
    _, start, steps = stage
    called = [start, *[source_of(step) for step in steps]]
    return [name for name in called if name is not None]


def first_unready(stages):
    """The first name that a stage calls although it is that of the stage itself or of a later one, or None."""
    for at, stage in enumerate(stages):
        unready = [later[0] for later in stages[at:]]
        for name in names_called(stage):
            if name in unready:
                return name
    return None
