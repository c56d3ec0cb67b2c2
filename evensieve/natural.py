"""Tables that are joined by all key columns they share, and whether lists of plans keep joined rows alike."""

from evensieve.basics import is_row
from evensieve.joint import Joint
from evensieve.same import judge_pair
from evensieve.sieveerrors import BadLists
from evensieve.tables import Columns

LEAST_TABLES = 2
MOST_TABLES = 4


def judge_joined(columns, one, other):
    """A Same if two lists of plans keep joined rows alike, otherwise an Unlike."""
    return judge_pair(joined_kernels(columns, one, other))


def shows_joined(told, columns, one, other):
    """Whether a Same or an Unlike is one of two lists of plans."""
    return told.shows_kernels(joined_kernels(columns, one, other))


def joined_kernels(columns, one, other):
    """The pair of the kernels of two lists of plans."""
    joint = joint_by_names(columns, (one, other))
    return (joint.kernel_at(0), joint.kernel_at(1))


def joint_by_names(columns, lists):
    """The Joint of tables that share all key columns of one name."""
    check_lists(columns, lists)
    names = [natural_names(own, table) for table, own in enumerate(columns)]
    return Joint(columns, names, lists)


def natural_names(columns, table):
    """The dict from the kinds of a table to their joint names: its blocks are its own alone."""
    return {kind: f"{table} {kind}" if kind == "block" else kind for kind in columns.kinds()}


def check_lists(columns, lists):
    """Raise BadLists, if there are not two to four Columns, or a list has not one plan for each."""
    if not is_row(columns) or not LEAST_TABLES <= len(columns) <= MOST_TABLES:
        raise BadLists(None)
    if not all([isinstance(own, Columns) for own in columns]):
        raise BadLists(None)
    for number, plans in enumerate(lists):
        if not is_row(plans) or len(plans) != len(columns):
            raise BadLists(number)
