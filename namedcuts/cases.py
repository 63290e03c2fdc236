"""CASES of a SCRIPT: what it does in all WORLDs, where it fails, and whether two do the same."""

from namedcuts.cuts import need_world, world_with
from namedcuts.errors import TooMany
from namedcuts.frames import order_of
from namedcuts.lattice import Lattice
from namedcuts.layouts import not_in_one, see_layout
from namedcuts.pieces import see_book, see_script
from namedcuts.runs import begun
from namedcuts.scales import Bounds
from namedcuts.steps import steps_of, top_scope

MOST_CASES = 200


class Forks:
    """A Run, and all that come of it where a question is not answered: by each answer one with another FACT."""

    def __init__(self, run):
        self.waiting = [run]

    def ended(self):
        """The next Run that comes to its end, in the order of CASES, or None."""
        while self.waiting:
            run = self.waiting.pop()
            asked = run.go_on()
            if asked is None:
                return run
            scales = run.scale.narrowed(asked[0], asked[1])
            self.waiting.extend([run.in_scale(scale) for scale in scales[::-1]])
        return None


class Stage:
    """A FRAME, a BOOK and a LAYOUT, for SCRIPTs to be done on."""

    def __init__(self, frame, book, layout):
        self.order = order_of(frame)
        self.pieces = see_book(self.order, book)
        see_layout(self.order, layout)
        self.layout = layout

    def see(self, script):
        """BadScript of what is no SCRIPT."""
        see_script(self.order, self.pieces, script)

    def steps_for(self, script):
        """The Steps of a SCRIPT."""
        return steps_of(self.pieces, script, top_scope())

    def runs(self, script):
        """The list of the Runs of all CASES of a SCRIPT; TooMany of more than 200."""
        forks = Forks(begun(Bounds(Lattice(self.order)), self.layout, self.steps_for(script)))
        runs = []
        run = forks.ended()
        while run is not None:
            if len(runs) == MOST_CASES:
                raise TooMany(MOST_CASES)
            runs.append(run)
            run = forks.ended()
        return runs

    def facts_of(self, run):
        """The FACTS of the CASE of a Run."""
        return run.scale.lattice.order.facts[len(self.order.facts):]

    def parting(self, runs, script):
        """A PARTING of the SCRIPT that has these Runs and another one, or None.

        The other one is done in the FRAME of each CASE: so its Runs tell of WORLDs that keep the FACTS of both."""
        steps = self.steps_for(script)
        for run in runs:
            forks = Forks(begun(run.scale, self.layout, steps))
            other = forks.ended()
            while other is not None:
                found = _parting(run, other)
                if found is not None:
                    return found
                other = forks.ended()
        return None


def _parting(run, other):
    """A PARTING of two Runs that ended, the other one with the FACTS of both, or None."""
    order = other.scale.lattice.order
    world = tuple(order.levels())
    if run.word != other.word:
        return (world, None, None)
    for name in sorted(set([*run.parts, *other.parts])):
        if name not in run.parts or name not in other.parts:
            return (world, None, name)
        low, high, house = run.parts[name]
        other_low, other_high, other_house = other.parts[name]
        if house != other_house:
            return (world, None, name)
        unlike = other.scale.lot(low, high) ^ other.scale.lot(other_low, other_high)
        if unlike:
            return (*world_with(order, other.scale.lattice.first(unlike)), name)
    return None


def stage_with(frame, book, layout, scripts):
    """The Stage of a FRAME, a BOOK and a LAYOUT; BadScript of the first of some SCRIPTs that is none."""
    stage = Stage(frame, book, layout)
    for script in scripts:
        stage.see(script)
    return stage


def cases(frame, book, layout, script):
    """The tuple of the CASES of a SCRIPT."""
    stage = stage_with(frame, book, layout, [script])
    return tuple([(stage.facts_of(run), *run.outcome()) for run in stage.runs(script)])


def case_of(frame, book, layout, script, world):
    """The index of the CASE whose FACTS a WORLD keeps."""
    stage = stage_with(frame, book, layout, [script])
    need_world(stage.order, world)
    kept = [run.scale.lattice.order.fits(world) for run in stage.runs(script)]
    return kept.index(True)


def stages(frame, book, layout, script):
    """For each CASE a pair of its FACTS and the pairs of each DEED that changes something and the LAYOUT behind it."""
    stage = stage_with(frame, book, layout, [script])
    return tuple([(stage.facts_of(run), _stages_of(run)) for run in stage.runs(script)])


def _stages_of(run):
    return tuple([(deed, run.layout_of(parts)) for deed, parts in run.past if deed is None or deed[0] != "need"])


def first_fault(frame, book, layout, script):
    """The FIRST FAULT of a SCRIPT: (NUMBER, WORLD, KEY), or None."""
    stage = stage_with(frame, book, layout, [script])
    found = [_fault_of(run) for run in stage.runs(script)]
    return min([fault for fault in found if fault is not None], key=_number_of, default=None)


def _number_of(fault):
    return fault[0]


def _fault_of(run):
    """The first number of DEEDs behind which a Run has no RIGHT LAYOUT, with a WORLD and a KEY, or None."""
    lattice = run.scale.lattice
    for number, (_, parts) in enumerate(run.past):
        wrong = not_in_one(lattice, [run.scale.lot(low, high) for low, high, _ in parts.values()])
        if wrong:
            return (number, *world_with(lattice.order, lattice.first(wrong)))
    return None


def alike(frame, book, layout, one, other):
    """Whether two SCRIPTs are ALIKE."""
    return parted(frame, book, layout, one, other) is None


def parted(frame, book, layout, one, other):
    """A PARTING of two SCRIPTs, or None."""
    stage = stage_with(frame, book, layout, [one, other])
    runs = stage.runs(one)
    stage.runs(other)
    return stage.parting(runs, other)


def needless(frame, book, layout, script):
    """The ascending tuple of the indexes of the NEEDLESS DEEDs of a SCRIPT."""
    stage = stage_with(frame, book, layout, [script])
    runs = stage.runs(script)
    less = [script[:number] + script[number + 1:] for number in range(len(script))]
    return tuple([number for number, one in enumerate(less) if stage.parting(runs, one) is None])


def may_change(frame, book, layout, script):
    """The ascending tuple of the indexes N such that the DEEDs N and N + 1 of a SCRIPT MAY CHANGE."""
    stage = stage_with(frame, book, layout, [script])
    runs = stage.runs(script)
    turned = [(*script[:number], *script[number:number + 2][::-1], *script[number + 2:])
              for number in range(len(script) - 1)]
    return tuple([number for number, one in enumerate(turned) if stage.parting(runs, one) is None])
