"""Fences with corners near the ends of their range, and moves that lead small fences out there."""

FAR = 10 ** 30
SHEARS = (
    (1, 10 ** 28 + 3, 0, 1, 0, 0), (1, 0, 9 * 10 ** 27 + 1, 1, 5, -7), (0, 1, 1, 10 ** 28 - 9, 0, 0),
    (10 ** 14 + 1, 10 ** 14, 1, 1, 3, 3), (-1, 0, 0, 1, 10 ** 27, -(10 ** 27)), (0, -1, 1, 0, 0, 0),
)
RING = [
    (-FAR, -FAR // 3), (-FAR // 2, -FAR), (FAR // 2, -FAR + 1), (FAR, -FAR // 3 - 1), (FAR, FAR // 7),
    (FAR - 5, FAR // 2), (FAR // 5, FAR), (-FAR // 3, FAR), (-FAR + 99, FAR // 3), (-FAR, FAR // 5),
]
