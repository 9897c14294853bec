"""The modifiers, each on a function below that's handed in as work: of one operand, or of a left and a right one.

Behind its operands work takes the tally that it counts in.
"""

from rankedfunctions.agreement import longer_shape, pairs_of
from rankedfunctions.arrays import FILL, Array, as_vector, cell_shape_of, cells_of, filled, frame_of, joined, sized
from rankedfunctions.refusals import ByZero, NoShape, NoSuchCell, NothingToFold, NumberTooBig, OutsideDomain
from rankedfunctions.refusals import WrongRank, WrongShape
from rankedfunctions.tallies import Tally


def gathered(frame, shape, answers):
    """The answers, which must all be of that shape, in one array."""
    for answer in answers:
        if answer.shape != shape:
            raise WrongShape()
    return Array(sized(frame + shape), joined([answer.data for answer in answers]))


def told_shape(work, zeros):
    """The shape that the answers would have where there are no cells."""
    try:
        # With a tally of its own, since what's worked on cells of zeros doesn't count.
        return work(zeros, Tally()).shape
    except (WrongShape, WrongRank, NoSuchCell, ByZero, NumberTooBig, NoShape, OutsideDomain, NothingToFold):
        return []


def work_each(work, frame, cells, zeros, tally):
    """Works each of the cells, and gathers the answers with the frame; zeros is what's worked if there are none."""
    answers = [work(cell, tally) for cell in cells]
    if len(answers) == 0:
        return gathered(frame, told_shape(work, zeros), answers)
    return gathered(frame, answers[0].shape, answers)


def work_each_pair(work, frame, pairs, left_shape, right_shape, tally):
    """So, for pairs of cells of these shapes."""
    zeros = (filled(left_shape, FILL), filled(right_shape, FILL))
    return work_each(lambda pair, its_tally: work(pair[0], pair[1], its_tally), frame, pairs, zeros, tally)


def at_of_one(work, rank, y, tally):
    cell_rank = min(rank, len(y.shape))
    zeros = filled(cell_shape_of(y, cell_rank), FILL)
    return work_each(work, frame_of(y, cell_rank), cells_of(y, cell_rank), zeros, tally)


def at_of_two(work, rank, x, y, tally):
    x_rank = min(rank, len(x.shape))
    y_rank = min(rank, len(y.shape))
    x_frame = frame_of(x, x_rank)
    y_frame = frame_of(y, y_rank)
    frame = longer_shape(x_frame, y_frame)
    pairs = pairs_of(x_frame, cells_of(x, x_rank), y_frame, cells_of(y, y_rank))
    return work_each_pair(work, frame, pairs, cell_shape_of(x, x_rank), cell_shape_of(y, y_rank), tally)


def table_of_two(work, x, y, tally):
    frame = sized(x.shape + y.shape)
    y_cells = cells_of(y, 0)
    pairs = []
    for left in cells_of(x, 0):
        pairs.extend([(left, right) for right in y_cells])
    return work_each_pair(work, frame, pairs, [], [], tally)


def own_cells(y):
    """The cells of an array of rank 1 or more."""
    return cells_of(y, len(y.shape) - 1)


def folded(work, start, cells, tally):
    so_far = start
    for cell in cells:
        so_far = work(so_far, cell, tally)
    return so_far


def fold_of_one(work, nothing, y, tally):
    """nothing is what fills the answer if there are no cells, or None where that's refused."""
    whole = as_vector(y)
    cells = own_cells(whole)
    if len(cells) > 0:
        return folded(work, cells[0], cells[1:], tally)
    if nothing is None:
        raise NothingToFold()
    return filled(whole.shape[1:], nothing)


def fold_of_two(work, x, y, tally):
    return folded(work, x, own_cells(as_vector(y)), tally)


def scanned(work, start, cells, tally):
    """The start, and what comes out after each of the cells."""
    kept = [start]
    for cell in cells:
        kept.append(work(kept[-1], cell, tally))
    return kept


def scan_of_one(work, y, tally):
    whole = as_vector(y)
    cells = own_cells(whole)
    if len(cells) == 0:
        return whole
    return gathered([len(cells)], cells[0].shape, scanned(work, cells[0], cells[1:], tally))


def scan_of_two(work, x, y, tally):
    whole = as_vector(y)
    cells = own_cells(whole)
    if len(cells) == 0:
        return whole
    answers = scanned(work, x, cells, tally)[1:]
    return gathered([len(cells)], answers[0].shape, answers)
