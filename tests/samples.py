"""Values and small helpers that several tests use."""

POST = (((10, (0,)), (15, (5,))), ((0, 1, 3, 12),))
VISIT = (((60, (0,)), (10, (0,)), (30, (25,))), ((0, 1, 5, 40), (1, 2, 1, 10)))

DIVISORS = (1, 2, 3, 4, 5, 6, 10, 12, 15, 20, 30, 60)

HUGE = 10 ** 4000 - 1


def nested(depth):
    """A value of lists, tuples and dicts, nested this deep."""
    value = 0
    for level in range(depth):
        value = ([value], (value,), {"a": value})[level % 3]
    return value


def other_values():
    """Values of many kinds that are neither a pattern nor an errand, new ones each time."""
    return [
        None, True, False, 0, 1, -1, 60, HUGE, -HUGE, "", "a", "ab", "(1, ())", b"", b"ab",
        (), (1,), ((),), ((), ()), (1, 2), (1, None), (None, ()), ("1", ()), (1, "0"), ("ab", "cd"),
        (1, (), ()), (1, (0,), ()), [], [1, ()], [1, [0]], (1, []), (1, [0]), (1, {}), (1, {0: 0}),
        {}, {1: ()}, {0: 1, 1: ()}, (1, 0), ((1, ()), ()), {"period": 1, "times": ()},
        (0,) * 20000, [0] * 20000, (10, (0,) * 20000), ((10, (0,)),) * 7, nested(20), nested(100),
        (nested(20), nested(20)), (60, nested(100)), (HUGE, (0,)), (60, (HUGE,)), (60, (-HUGE,)),
    ]


def contained(pattern, low, high):
    """The times from low to high - 1 that a pattern contains, by the words of the document."""
    return [t for t in range(low, high) if any(t % pattern[0] == u for u in pattern[1])]


def is_smallest_of(pattern, chosen):
    """Whether a pattern is the smallest one of the times for which chosen (of period 60) is true."""
    period, times = pattern
    if type(pattern) is not tuple or type(times) is not tuple:
        return False
    wanted = [bool(chosen(t)) for t in range(60)]
    periods = [d for d in DIVISORS if all(wanted[t] == wanted[(t + d) % 60] for t in range(60))]
    return period == periods[0] and times == tuple(t for t in range(period) if wanted[t])
