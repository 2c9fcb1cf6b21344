"""Power: scripts that are run on a chip, what they are to do, and what is left of them when power is cut."""

from onewaybits.chip import Chip
from onewaybits.deeds import SYNC, is_script
from onewaybits.errors import InvalidChip, InvalidPlans, InvalidScript, InvalidTree, PowerCut
from onewaybits.kinds import is_int, is_list, is_mask
from onewaybits.meaning import meaning
from onewaybits.room import answer_and_tree
from onewaybits.store import Store
from onewaybits.tree import Tree

DONE = "done"
CUT = "cut"


def beginnings(chip, script):
    """Return the trees behind the first 0, 1, 2 and so on deeds of a script, told without any op."""
    _check(chip, script)
    trees = [meaning(chip)]
    for step in script:
        if not _is_sync(step):
            _, behind = answer_and_tree(chip, trees[-1], step)
            trees.append(behind)
    return trees


def run(chip, script):
    """Do a script on a chip; return what its deeds were answered, or how many were answered and synced until a cut."""
    _check(chip, script)
    return _run_steps(chip, script)


def meant(chip, trees):
    """Return the indices of those trees that are equal to the meaning of a chip."""
    _check_chip(chip)
    if not is_list(trees) or not all([isinstance(tree, Tree) for tree in trees]):
        raise InvalidTree(trees)
    whole = meaning(chip).whole()
    return [k for k, tree in enumerate(trees) if tree.whole() == whole]


def run_on(chip, script, plans):
    """Do a script and a sync, going on behind each planned cut; return behind how many deeds each run went on."""
    _check(chip, script)
    if not _are_plans(plans):
        raise InvalidPlans(plans)
    trees = beginnings(chip, script)
    steps = list(script) + [(SYNC,)]
    places = []
    told = _run_by_plan(chip, steps, plans, 0)
    while told[0] == CUT:
        _, done, _ = told
        answered = _last_of(places) + done
        places.append(max([k for k in meant(chip, trees) if k <= answered]))
        told = _run_by_plan(chip, _steps_behind(steps, places[-1]), plans, len(places))
    chip.clear_plans()
    return places


def _check_chip(chip):
    if not isinstance(chip, Chip):
        raise InvalidChip(chip)


def _check(chip, script):
    _check_chip(chip)
    if not is_script(script):
        raise InvalidScript(script)


def _is_sync(step):
    return step[0] == SYNC


def _are_plans(value):
    return is_list(value) and all([_is_plan(plan) for plan in value])


def _is_plan(value):
    if not isinstance(value, tuple) or len(value) != 2:
        return False
    ops, mask = value
    return is_int(ops) and ops >= 0 and is_mask(mask)


def _run_steps(chip, steps):
    """Do steps on a chip; there may be one more than a script has."""
    store = Store(chip)
    answers = []
    synced = 0
    try:
        for step in steps:
            if _is_sync(step):
                store.sync()
                synced = len(answers)
            else:
                answers.append(store.do(step))
    except PowerCut:
        return (CUT, len(answers), synced)
    return (DONE, answers)


def _run_by_plan(chip, steps, plans, k):
    """Do steps, with a cut by the plan of this index if there is one."""
    if k < len(plans):
        ops, mask = plans[k]
        chip.cut(chip.ops + ops, mask)
    return _run_steps(chip, steps)


def _last_of(places):
    """Return behind how many deeds the last run began."""
    if len(places) == 0:
        return 0
    return places[-1]


def _steps_behind(steps, count):
    """Return the steps behind so many deeds, all steps for none."""
    starts = [0] + [place + 1 for place, step in enumerate(steps) if not _is_sync(step)]
    return steps[starts[count]:]
