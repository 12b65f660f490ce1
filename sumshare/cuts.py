"""The cut: what each sum is lessened by where there are more sums than room."""


def cut_of(room, sums):
    if len(sums) <= room:
        return 0
    return sorted(sums.values(), reverse=True)[room]
