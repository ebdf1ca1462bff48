"""The levels of a table: dicts that lead from a step to a lower level, those of the last level to an entry."""


def look_at(top, steps):
    found = top
    for step in steps:
        if step not in found:
            return None
        found = found[step]
    return found


def put_at(top, steps, entry):
    level = top
    for step in steps[:-1]:
        level = level.setdefault(step, {})
    level[steps[-1]] = entry


def drop_at(level, steps):
    step = steps[0]
    if step not in level:
        return
    if len(steps) > 1:
        drop_at(level[step], steps[1:])
        # A lower table is there only while something lies in it.
        if len(level[step]) > 0:
            return
    level.pop(step)


def depth_at(top, steps):
    level = top
    depth = 1
    for step in steps[:-1]:
        if step not in level:
            return depth
        level = level[step]
        depth = depth + 1
    return depth


def count_of(level, levels):
    if levels == 1:
        return 1
    return 1 + sum([count_of(lower, levels - 1) for lower in level.values()])


# Only the steps that lead somewhere are walked, however many the room has.
def told_of(level, levels, ahead):
    told = []
    for step in sorted(level.keys()):
        steps = ahead + [step]
        if levels == 1:
            told.append((steps, level[step]))
        else:
            told.extend(told_of(level[step], levels - 1, steps))
    return told
