"""Routing TREEs: LOOKs at NAMEs that lead each CUT to a leaf, the name of a PART or None."""

from namedcuts.cuts import need_cut
from namedcuts.errors import BadDeed, BadTree, TooMany
from namedcuts.frames import order_of
from namedcuts.kinds import is_name, is_tuple_of, is_word
from namedcuts.lattice import Lattice
from namedcuts.layouts import see_layout
from namedcuts.maps import mapped
from namedcuts.pieces import FORMS
from namedcuts.terms import ENDS, is_term

MOST_LOOKS = 200
MOST_ON_WAY = 40
DONE_IN_TREES = ("split", "join", "shift", "call", "off")


def need_tree(frame, thing):
    """The thing itself; BadTree of what is no TREE of the FRAME."""
    see_tree(order_of(frame), thing)
    return thing


def see_tree(order, thing):
    """BadTree of what is no TREE of an Order."""
    if not is_tree(order.names, thing):
        raise BadTree(thing)


def is_tree(names, thing):
    """Whether anything is a TREE of some NAMES."""
    waiting = [(thing, 0)]
    looks = 0
    # What is too deep, or has too many LOOKs, is left at once: it may have far more of them behind.
    while waiting and looks <= MOST_LOOKS:
        part, deep = waiting.pop()
        if part is None or is_name(part):
            continue
        if deep == MOST_ON_WAY or not is_tuple_of(part, 3, 3) or not is_word(part[0], names):
            return False
        looks += 1
        waiting.extend([(part[1], deep + 1), (part[2], deep + 1)])
    return looks <= MOST_LOOKS


def depth(frame, tree):
    """The DEPTH of a TREE."""
    see_tree(order_of(frame), tree)
    return depth_of(tree)


def depth_of(tree):
    """The most LOOKs on a way from the top of a TREE to a leaf."""
    if not isinstance(tree, tuple):
        return 0
    return 1 + max(depth_of(tree[1]), depth_of(tree[2]))


def leaf(frame, tree, cut):
    """What stands at the leaf of a TREE to which a CUT COMES."""
    order = order_of(frame)
    see_tree(order, tree)
    need_cut(order, cut)
    return _leaf_of(tree, cut)


def _leaf_of(tree, cut):
    while isinstance(tree, tuple):
        name, no, yes = tree
        tree = yes if name in cut else no
    return tree


def tree_map(frame, tree):
    """The MAP of a TREE."""
    order = order_of(frame)
    see_tree(order, tree)
    return mapped_by(Lattice(order), tree)


def mapped_by(lattice, tree):
    """The MAP of a TREE in a Lattice."""
    return tuple([_leaf_of(tree, cut) for cut in lattice.named])


def is_right_tree(frame, layout, tree):
    """Whether a TREE is RIGHT for a LAYOUT."""
    order = order_of(frame)
    see_layout(order, layout)
    see_tree(order, tree)
    lattice = Lattice(order)
    return mapped(lattice, layout) == mapped_by(lattice, tree)


def form(frame, layout):
    """The FORM of the MAP of a LAYOUT."""
    order = order_of(frame)
    see_layout(order, layout)
    lattice = Lattice(order)
    return _form_of(list(zip(lattice.named, mapped(lattice, layout))), order.names)


def _form_of(pairs, names):
    """The FORM of some CUTs, in pairs with the things that they have, by some NAMEs."""
    if all([thing == pairs[0][1] for _, thing in pairs]):
        return pairs[0][1]
    without = [(cut, thing) for cut, thing in pairs if names[0] not in cut]
    having = [(cut, thing) for cut, thing in pairs if names[0] in cut]
    if not without or not having:
        return _form_of(pairs, names[1:])
    return _look_at(names[0], _form_of(without, names[1:]), _form_of(having, names[1:]))


def _look_at(name, no, yes):
    """A LOOK, or one of its sides if they are the same."""
    return no if no == yes else (name, no, yes)


def trimmed(frame, tree):
    """The TREE TRIMMED."""
    order = order_of(frame)
    see_tree(order, tree)
    return _trimmed_for(Lattice(order).named, tree)


def _trimmed_for(cuts, tree):
    """The TREE that is left of a TREE to which some CUTs come, at least one."""
    if not isinstance(tree, tuple):
        return tree
    name, no, yes = tree
    without = [cut for cut in cuts if name not in cut]
    having = [cut for cut in cuts if name in cut]
    if not having:
        return _trimmed_for(without, no)
    if not without:
        return _trimmed_for(having, yes)
    return _look_at(name, _trimmed_for(without, no), _trimmed_for(having, yes))


def stepped(frame, tree, deed):
    """The TREE with a DEED done in it."""
    order = order_of(frame)
    see_tree(order, tree)
    if not _is_done_in_trees(order.names, deed):
        raise BadDeed(deed)
    new, looks, deep = _with_leaves(tree, _new_leaves(deed))
    if looks > MOST_LOOKS:
        raise TooMany(MOST_LOOKS)
    if deep > MOST_ON_WAY:
        raise TooMany(MOST_ON_WAY)
    return new


def _is_done_in_trees(names, thing):
    """Whether anything is by its form a DEED that can be done in a TREE."""
    if not is_tuple_of(thing, 2, 5) or not is_word(thing[0], DONE_IN_TREES):
        return False
    sorts = FORMS[thing[0]]
    if len(thing) != len(sorts) + 1:
        return False
    return all([is_term(names, word) if sort == "term" else is_name(word) for sort, word in zip(sorts, thing[1:])])


# From here on a TREE is kept as a triple with the number of its LOOKs and its DEPTH: these are known without going
# through it, also where a TERM has far more LOOKs than could be gone through.

def _new_leaves(deed):
    """A dict from the leaves that a DEED changes to what stands there then."""
    if deed[0] == "split":
        _, part, term, left, right = deed
        return {part: _looks_of(term, _just(left), _just(right))}
    if deed[0] == "join":
        _, left, right, part = deed
        return {left: _just(part), right: _just(part)}
    if deed[0] == "shift":
        _, left, right, term = deed
        looks = _looks_of(term, _just(left), _just(right))
        return {left: looks, right: looks}
    return {deed[1]: _just(deed[2] if deed[0] == "call" else None)}


def _just(leaf_thing):
    return (leaf_thing, 0, 0)


def _looked(name, no, yes):
    return ((name, no[0], yes[0]), 1 + no[1] + yes[1], 1 + max(no[2], yes[2]))


def _looks_of(term, no, yes):
    """The LOOKs of a TERM, with what stands where it is not HAD, and where it is."""
    if isinstance(term, str):
        if term in ENDS:
            return yes if term == "-" else no
        return _looked(term, no, yes)
    behind = no if term[0] == "least" else yes
    for inner in term[:0:-1]:
        behind = _looks_of(inner, behind, yes) if term[0] == "least" else _looks_of(inner, no, behind)
    return behind


def _with_leaves(tree, leaves):
    """A TREE with what stands in the place of some of its leaves."""
    if not isinstance(tree, tuple):
        return leaves.get(tree, _just(tree))
    name, no, yes = tree
    return _looked(name, _with_leaves(no, leaves), _with_leaves(yes, leaves))
