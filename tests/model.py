"""A second working of functions, to hold the program's answers against.

It goes another way than the program: an array is a shape and a dict from each index to the element there, and every
answer is told index by index. It is slow, so it is for small arrays.
"""

import itertools
import math

from calls import BIG, BIGGEST, DOMAIN, EMPTY, FORM, INDEX, RANK, SHAPE, SIZE, USE, ZERO

ONES = "Abs Sign Not Shape Count Ravel Iota Flip Turn Grade Where First".split()


class Refused(Exception):
    def __init__(self, number):
        super().__init__(number)
        self.number = number


def require(holds, number):
    if not holds:
        raise Refused(number)


def indexes(shape):
    return list(itertools.product(*[range(extent) for extent in shape]))


def is_shape(shape):
    return len(shape) <= 5 and all(e >= 0 for e in shape) and math.prod(e for e in shape if e) <= 1024


class Arr:
    def __init__(self, shape, at):
        """at: a function from an index to the element."""
        self.shape = tuple(shape)
        require(is_shape(self.shape), SIZE)
        self.at = {index: at(index) for index in indexes(self.shape)}

    def data(self):
        return [self.at[index] for index in indexes(self.shape)]

    def __eq__(self, other):
        return self.shape == other.shape and self.at == other.at

    @property
    def rank(self):
        return len(self.shape)


def from_lists(shape, data):
    shape = tuple(shape)
    require(is_shape(shape) and len(data) == math.prod(shape), FORM)
    elements = dict(zip(indexes(shape), data))
    return Arr(shape, elements.get)


def number(value):
    return Arr((), lambda index: int(value))


def vector(values):
    values = list(values)
    return Arr((len(values),), lambda index: values[index[0]])


def vectored(y):
    return y if y.rank else vector([y.at[()]])


def cell(y, index):
    """The cell that stands at this index in the frame."""
    return Arr(y.shape[len(index):], lambda inner: y.at[index + inner])


def own_cells(y):
    return [cell(y, (i,)) for i in range(y.shape[0])]


def stacked(cells, cell_shape):
    return Arr((len(cells),) + cell_shape, lambda index: cells[index[0]].at[index[1:]])


def iota(y):
    require(y.rank <= 1, RANK)
    require(all(n >= 0 for n in y.data()), DOMAIN)
    shape = tuple(y.data())
    require(is_shape(shape), SIZE)
    places = {index: place for place, index in enumerate(indexes(shape))}
    return Arr(shape, places.get)


def grade(y):
    require(y.rank >= 1, RANK)
    cells = own_cells(y)
    order = []
    for i, one in enumerate(cells):
        # Behind all that aren't greater: so like cells stand in order of their numbers.
        place = len([j for j in order if cells[j].data() <= one.data()])
        order.insert(place, i)
    return vector(order)


def where(y):
    require(y.rank == 1, RANK)
    require(all(n >= 0 for n in y.data()), DOMAIN)
    require(sum(y.data()) <= 1024, SIZE)
    return vector([i for i, n in enumerate(y.data()) for _ in range(n)])


def first(y):
    if y.rank == 0:
        return y
    return cell(y, (0,)) if y.shape[0] else Arr(y.shape[1:], lambda index: 0)


def boolean(a):
    require(a in (0, 1), DOMAIN)
    return a


BASE_ONE = {
    "-": lambda y: Arr(y.shape, lambda i: -y.at[i]),
    "Abs": lambda y: Arr(y.shape, lambda i: abs(y.at[i])),
    "Sign": lambda y: Arr(y.shape, lambda i: (y.at[i] > 0) - (y.at[i] < 0)),
    "Not": lambda y: Arr(y.shape, lambda i: 1 - boolean(y.at[i])),
    "Shape": lambda y: vector(y.shape),
    "Count": lambda y: number(y.shape[0] if y.rank else 1),
    "Ravel": lambda y: vector(y.data()),
    "Iota": iota,
    "Flip": lambda y: Arr(y.shape[::-1], lambda i: y.at[i[::-1]]),
    "Turn": lambda y: Arr(y.shape, lambda i: y.at[(y.shape[0] - 1 - i[0],) + i[1:]]) if y.rank else y,
    "Grade": grade,
    "Where": where,
    "First": first,
}


def fitting(n):
    require(-BIGGEST <= n <= BIGGEST, BIG)
    return n


def div(a, b):
    require(b != 0, ZERO)
    q = abs(a) // abs(b)
    if (a < 0) == (b < 0) or a == 0:
        return q
    return -q if q * abs(b) == abs(a) else -q - 1


PAIRS = {
    "+": lambda a, b: fitting(a + b),
    "-": lambda a, b: fitting(a - b),
    "*": lambda a, b: fitting(a * b),
    "Div": div,
    "Mod": lambda a, b: a - b * div(a, b),
    "Min": lambda a, b: a if a < b else b,
    "Max": lambda a, b: b if a < b else a,
    "<": lambda a, b: int(a < b),
    "<=": lambda a, b: int(a <= b),
    "=": lambda a, b: int(a == b),
    "/=": lambda a, b: int(a != b),
    "And": lambda a, b: boolean(a) * boolean(b),
    "Or": lambda a, b: int(boolean(a) + boolean(b) > 0),
}


def agreed(s, t):
    """The longer of two shapes."""
    n = min(len(s), len(t))
    require(s[:n] == t[:n], SHAPE)
    return max(s, t, key=len)


def scalar_pair(f, x, y):
    shape = agreed(x.shape, y.shape)
    return Arr(shape, lambda i: PAIRS[f](x.at[i[:x.rank]], y.at[i[:y.rank]]))


def one_number(x):
    require(x.rank <= 1, RANK)
    require(x.shape in ((), (1,)), SHAPE)
    return x.data()[0]


def reshape(x, y):
    require(x.rank <= 1, RANK)
    require(all(n >= 0 for n in x.data()), DOMAIN)
    shape = tuple(x.data())
    require(is_shape(shape), SIZE)
    source = itertools.cycle(y.data() or [0])
    elements = {index: next(source) for index in indexes(shape)}
    return Arr(shape, elements.get)


def take(x, y):
    n = one_number(x)
    y = vectored(y)
    require(is_shape((abs(n),) + y.shape[1:]), SIZE)
    begin = 0 if n >= 0 else y.shape[0] + n
    return Arr((abs(n),) + y.shape[1:], lambda i: y.at.get((begin + i[0],) + i[1:], 0))


def drop(x, y):
    n = one_number(x)
    y = vectored(y)
    begin = max(n, 0)
    return Arr((max(y.shape[0] - abs(n), 0),) + y.shape[1:], lambda i: y.at[(begin + i[0],) + i[1:]])


def rotate(x, y):
    n = one_number(x)
    return Arr(y.shape, lambda i: y.at[((i[0] + n) % y.shape[0],) + i[1:]]) if y.rank else y


def join(x, y):
    if not x.rank and not y.rank:
        return vector([x.at[()], y.at[()]])
    if not x.rank:
        return join(Arr((1,) + y.shape[1:], lambda i: x.at[()]), y)
    if not y.rank:
        return join(x, Arr((1,) + x.shape[1:], lambda i: y.at[()]))
    if x.rank + 1 == y.rank:
        return join(Arr((1,) + x.shape, lambda i: x.at[i[1:]]), y)
    if y.rank + 1 == x.rank:
        return join(x, Arr((1,) + y.shape, lambda i: y.at[i[1:]]))
    require(x.shape[1:] == y.shape[1:] and x.rank == y.rank, SHAPE)
    n = x.shape[0]
    return Arr((n + y.shape[0],) + x.shape[1:], lambda i: x.at[i] if i[0] < n else y.at[(i[0] - n,) + i[1:]])


def pick(x, y):
    require(y.rank >= 1, RANK)
    require(all(0 <= n < y.shape[0] for n in x.data()), INDEX)
    return Arr(x.shape + y.shape[1:], lambda i: y.at[(x.at[i[:x.rank]],) + i[x.rank:]])


def find(x, y):
    require(x.rank >= 1, RANK)
    s = x.shape[1:]
    frame = y.rank - len(s)
    require(frame >= 0 and y.shape[frame:] == s, SHAPE)
    cells = own_cells(x)
    return Arr(y.shape[:frame], lambda i: (cells + [cell(y, i)]).index(cell(y, i)))


def keep(x, y):
    require(x.rank <= 1, RANK)
    y = vectored(y)
    require(x.rank == 0 or x.shape[0] == y.shape[0], SHAPE)
    require(all(n >= 0 for n in x.data()), DOMAIN)
    counts = x.data() if x.rank else x.data() * y.shape[0]
    require(is_shape((sum(counts),) + y.shape[1:]), SIZE)
    return stacked([c for c, n in zip(own_cells(y), counts) for _ in range(n)], y.shape[1:])


BASE_TWO = {
    "Reshape": reshape, "Take": take, "Drop": drop, "Rotate": rotate, "Join": join, "Pick": pick, "Find": find,
    "Same": lambda x, y: number(x == y), "Keep": keep,
}


def uses(f):
    if len(f) == 1:
        return {1, 2} if f[0] == "-" else {1} if f[0] in ONES else {2}
    below = uses(f[:-1])
    if f[-1] in (":fold", ":scan", ":swap"):
        return {1, 2} if 2 in below else set()
    return below


def gather(frame, calls, zeros):
    """calls: for each index of the frame a call that answers an array; zeros: the call for cells of zeros."""
    answers = {index: calls(index) for index in indexes(frame)}
    if answers:
        shapes = {answer.shape for answer in answers.values()}
        require(len(shapes) == 1, SHAPE)
        shape = shapes.pop()
    else:
        try:
            shape = zeros().shape
        except Refused:
            shape = ()
    return Arr(frame + shape, lambda i: answers[i[:len(frame)]].at[i[len(frame):]])


def zero(shape):
    return Arr(shape, lambda i: 0)


def along(f, begin, cells):
    """All that comes out on the way."""
    return list(itertools.accumulate(cells, lambda x, y: two(f, x, y), initial=begin))


def scanned(kept):
    return gather((len(kept),), lambda i: kept[i[0]], None)


def one(f, y):
    if len(f) == 1:
        return BASE_ONE[f[0]](y)
    below, modifier = f[:-1], f[-1]
    if modifier == ":swap":
        return two(below, y, y)
    if modifier in (":fold", ":scan"):
        y = vectored(y)
        cells = own_cells(y)
        if cells:
            kept = along(below, cells[0], cells[1:])
            return kept[-1] if modifier == ":fold" else scanned(kept)
        if modifier == ":scan":
            return y
        begin = {("+",): 0, ("Or",): 0, ("*",): 1, ("And",): 1}.get(tuple(below))
        require(begin is not None, EMPTY)
        return Arr(y.shape[1:], lambda i: begin)
    k = 0 if modifier == ":table" else int(modifier[-1])
    n = max(y.rank - k, 0)
    return gather(y.shape[:n], lambda i: one(below, cell(y, i)), lambda: one(below, zero(y.shape[n:])))


def two(f, x, y):
    if len(f) == 1:
        return scalar_pair(f[0], x, y) if f[0] in PAIRS else BASE_TWO[f[0]](x, y)
    below, modifier = f[:-1], f[-1]
    if modifier == ":swap":
        return two(below, y, x)
    if modifier in (":fold", ":scan"):
        y = vectored(y)
        kept = along(below, x, own_cells(y))
        if modifier == ":fold":
            return kept[-1]
        return scanned(kept[1:]) if y.shape[0] else y
    if modifier == ":table":
        frame = x.shape + y.shape
        require(is_shape(frame), SIZE)
        return gather(
            frame, lambda i: two(below, cell(x, i[:x.rank]), cell(y, i[x.rank:])),
            lambda: two(below, zero(()), zero(())))
    k = int(modifier[-1])
    n, m = max(x.rank - k, 0), max(y.rank - k, 0)
    frame = agreed(x.shape[:n], y.shape[:m])
    return gather(
        frame, lambda i: two(below, cell(x, i[:n]), cell(y, i[:m])),
        lambda: two(below, zero(x.shape[n:]), zero(y.shape[m:])))


def times_along(f, begin, cells):
    """How often f's base function is worked from one of the cells to the next."""
    kept = along(f, begin, cells)
    return sum(times_two(f, so_far, one_cell) for so_far, one_cell in zip(kept, cells))


def times_one(f, y):
    """How often the base function is worked where one answers an array: from the cells that there are alone."""
    if len(f) == 1:
        return 1
    below, modifier = f[:-1], f[-1]
    if modifier == ":swap":
        return times_two(below, y, y)
    if modifier in (":fold", ":scan"):
        cells = own_cells(vectored(y))
        return times_along(below, cells[0], cells[1:]) if cells else 0
    k = 0 if modifier == ":table" else int(modifier[-1])
    return sum(times_one(below, cell(y, i)) for i in indexes(y.shape[:max(y.rank - k, 0)]))


def times_two(f, x, y):
    if len(f) == 1:
        return 1
    below, modifier = f[:-1], f[-1]
    if modifier == ":swap":
        return times_two(below, y, x)
    if modifier in (":fold", ":scan"):
        return times_along(below, x, own_cells(vectored(y)))
    if modifier == ":table":
        n, frame = x.rank, x.shape + y.shape
        return sum(times_two(below, cell(x, i[:n]), cell(y, i[n:])) for i in indexes(frame))
    k = int(modifier[-1])
    n, m = max(x.rank - k, 0), max(y.rank - k, 0)
    frame = agreed(x.shape[:n], y.shape[:m])
    return sum(times_two(below, cell(x, i[:n]), cell(y, i[:m])) for i in indexes(frame))


def lists(answer):
    return list(answer.shape), answer.data()


def told(f, operands, answer_of):
    """What's told of the function f, which is a list of its base and its modifiers, and of operands as two lists."""
    try:
        arrays = [from_lists(*operand) for operand in operands]
        require(len(operands) in uses(f), USE)
        return answer_of(f, *arrays)
    except Refused as refused:
        return refused.number


def told_one(f, shape, data):
    """What one answers: a refusal's number, or a shape and data."""
    return told(f, [(shape, data)], lambda f, y: lists(one(f, y)))


def told_two(f, x, y):
    """What two answers of two arrays, each a shape and data."""
    return told(f, [x, y], lambda f, x, y: lists(two(f, x, y)))


def told_tally(f, operands, answer, times):
    """A refusal's number alone, or 0 and how often the base function is worked."""
    if isinstance(answer, int):
        return [answer]
    return [0, told(f, operands, times)]


def told_tally1(f, shape, data):
    return told_tally(f, [(shape, data)], told_one(f, shape, data), times_one)


def told_tally2(f, x, y):
    return told_tally(f, [x, y], told_two(f, x, y), times_two)
