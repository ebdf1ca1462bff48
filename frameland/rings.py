"""The hand that goes round over a row of marks and chooses the first place without one."""


# The marks handed in stay as they are: whoever keeps them takes away those of the places passed.
def swept(marks, hand):
    passed = []
    place = hand
    while len(passed) < len(marks) and marks[place]:
        passed.append(place)
        place = (place + 1) % len(marks)
    return (place, passed)
