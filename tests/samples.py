"""Values and small helpers that several tests use."""

POST = (((10, (0,)), (15, (5,))), ((0, 1, 3, 12),))
VISIT = (((60, (0,)), (10, (0,)), (30, (25,))), ((0, 1, 5, 40), (1, 2, 1, 10)))

DIVISORS = (1, 2, 3, 4, 5, 6, 10, 12, 15, 20, 30, 60)

HUGE = 10 ** 4000 - 1
MUCH = (60 * 10 ** 58, -60 * 10 ** 58, 60 * 10 ** 3990, -60 * 10 ** 3990)

ANY = (1, (0,))
NEVER = (60, ())
NO_PLANS = [
    ((NEVER,), ()), ((ANY, NEVER), ()), ((NEVER, ANY), ((0, 1, 0, 5),)), ((NEVER, NEVER), ()),
    (((10, (0,)), (10, (5,))), ((0, 1, 6, 14),)), ((ANY, ANY), ((0, 1, 3, None), (0, 1, None, 2))),
    ((ANY, ANY, ANY), ((1, 2, 1, None), (2, 1, 0, None))), ((ANY, ANY, ANY), ((0, 1, 100, None), (1, 2, 100, None))),
    (((60, (0,)), (60, (0,))), ((0, 1, 61, None), (0, 1, None, 119)))]

# Waits that lead from a step back to it: most of these errands have plans, two have none.
CYCLES = [
    (((10, (0,)), (4, (1,)), (12, (5,))), ((0, 1, 3, 9), (1, 2, 2, 20), (2, 0, -30, -6))),
    (((20, (0,)), (15, (5,)), (12, (1,))), ((0, 1, 1, None), (1, 2, 1, None), (2, 0, 1, None))),
    (((5, (0, 2)), (5, (1,)), (5, (2,)), (5, (3,))), ((0, 1, 1, 9), (1, 2, 1, 6), (2, 3, 1, 9), (3, 0, -8, None))),
    (((1, (0,)), (1, (0,))), ((0, 1, 7, None), (1, 0, -9, None), (0, 1, 8, None), (0, 1, None, 8))),
    (((6, (0,)), (10, (3,))), ((0, 1, 2, None), (1, 0, None, -4), (1, 0, -5, None), (0, 1, None, 30))),
    (((6, (0,)), (10, (3,))), ((0, 1, 2, None), (1, 0, 1, None)))]


def nested(depth):
    """A value of lists, tuples and dicts, nested this deep."""
    value = 0
    for level in range(depth):
        value = ([value], (value,), {"a": value})[level % 3]
    return value


def other_values():
    """Values of many kinds that are neither a pattern nor an errand, new ones each time."""
    return [
        None, True, False, 0, 1, -1, 60, HUGE, -HUGE, "", "a", "ab", "(1, ())", b"", b"ab",
        (), (1,), ((),), ((), ()), (1, 2), (1, None), (None, ()), ("1", ()), (1, "0"), ("ab", "cd"),
        (1, (), ()), (1, (0,), ()), [], [1, ()], [1, [0]], (1, []), (1, [0]), (1, {}), (1, {0: 0}),
        {}, {1: ()}, {0: 1, 1: ()}, (1, 0), ((1, ()), ()), {"period": 1, "times": ()},
        (0,) * 20000, [0] * 20000, (10, (0,) * 20000), ((10, (0,)),) * 7, nested(20), nested(100),
        (nested(20), nested(20)), (60, nested(100)), (HUGE, (0,)), (60, (HUGE,)), (60, (-HUGE,)),
    ]


def contained(pattern, low, high):
    """The times from low to high - 1 that a pattern contains, by the words of the document."""
    return [t for t in range(low, high) if any(t % pattern[0] == u for u in pattern[1])]


def is_smallest_of(pattern, chosen):
    """Whether a pattern is the smallest one of the times for which chosen (of period 60) is true."""
    period, times = pattern
    if type(pattern) is not tuple or type(times) is not tuple:
        return False
    wanted = [bool(chosen(t)) for t in range(60)]
    periods = [d for d in DIVISORS if all(wanted[t] == wanted[(t + d) % 60] for t in range(60))]
    return period == periods[0] and times == tuple(t for t in range(period) if wanted[t])
