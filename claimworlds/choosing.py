"""Which waiting clause a run takes next."""


def clause_weight(order, clause):
    """The sum of the weights of all sides of the literals of a clause."""
    return sum([order.weight(side) for literal in clause for side in literal[1:]])


def choose_next(run, *, beat=3):
    """The number of the waiting clause that is to be taken next, or None."""
    waiting = run.numbers("waiting")
    if not waiting:
        return None
    if (run.takes + 1) % beat == 0:
        return waiting[0]
    chosen = waiting[0]
    for number in waiting:
        if run.load_of(number) < run.load_of(chosen):
            chosen = number
    return chosen


def drive_run(run, rounds, *, beat=3):
    """Takes chosen clauses, at most so many, until the run is no longer going, and returns its word."""
    for _ in range(rounds):
        if run.word != "going":
            break
        run.take(choose_next(run, beat=beat))
    return run.word
