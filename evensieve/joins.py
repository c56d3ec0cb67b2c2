"""Two tables that are joined by a key column, and whether pairs of plans keep joined rows alike."""

from evensieve.joint import Joint, meeting_chances
from evensieve.same import judge_pair
from evensieve.sieveerrors import BadKey
from evensieve.tables import KEY

BOTH = "both"


def judge_join(one, other, key, first, second):
    """A Same if two pairs of plans keep joined rows alike, otherwise an Unlike."""
    return judge_pair(join_kernels(one, other, key, first, second))


def shows_join(told, one, other, key, first, second):
    """Whether a Same or an Unlike is one of two pairs of plans."""
    return told.shows_kernels(join_kernels(one, other, key, first, second))


def join_chance(one, other, key, pair):
    """A dict from pairs of types of both tables to the chances that joined rows of them are kept."""
    joint = joint_by_key(one, other, key, (pair,))
    return meeting_chances(joint.kernel_at(0), len(joint.types_at(0)), BOTH)


def join_kernels(one, other, key, first, second):
    """The pair of the kernels of two pairs of plans."""
    joint = joint_by_key(one, other, key, (first, second))
    return (joint.kernel_at(0), joint.kernel_at(1))


def joint_by_key(one, other, key, pairs):
    """The Joint of two tables that have one key column in common, whatever their others are called."""
    check_key(one, other, key)
    names = [join_names(columns, key, ahead) for columns, ahead in ((one, "one "), (other, "two "))]
    return Joint((one, other), names, pairs)


def check_key(one, other, key):
    """Raise BadKey for what is no key column of both."""
    if key not in one.hashed or key not in other.hashed:
        raise BadKey(key)


def join_names(columns, key, ahead):
    """The dict from the kinds of a table to their joint names, with some letters ahead of its own ones."""
    return {kind: BOTH if kind == KEY + key else ahead + kind for kind in columns.kinds()}
