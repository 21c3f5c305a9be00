"""Seats that are given to holders one after the other."""


def seat_order(counts, seats, *, step=1):
    """The numbers of the holders in the order in which they get the seats (point 45)."""
    able = [holder for holder, count in enumerate(counts) if count > 0]
    if not able:
        return []
    divisors = [1] * len(counts)
    order = []
    for _ in range(seats):
        best = able[0]
        for holder in able:
            # Fractions are compared by products, and of equal ones the least number comes first.
            if counts[holder] * divisors[best] > counts[best] * divisors[holder]:
                best = holder
        order.append(best)
        divisors[best] += step
    return order


def divide(counts, seats, *, step=1):
    """How many seats each holder gets (point 45)."""
    order = seat_order(counts, seats, step=step)
    return [order.count(holder) for holder in range(len(counts))]
