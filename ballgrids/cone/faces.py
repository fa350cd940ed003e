"""Face rows, and matrices that lead those of one form to those of another one [11.4]; nothing is checked here.

A face is kept as the pairs of its rows and their weights.
"""

from ballgrids.base.echelons import lead_steps
from ballgrids.base.lines import adjugate, determinant_of, multiplied, turned
from ballgrids.cone.told import RAYS
from ballgrids.cone.walking import place_of
from ballgrids.form.algebra import divided, image, made_normal, pairing_of, squares_sum


def face_along(name, matrix, weights):
    """The pair of the rays of a copy with weights above 0, ascending, and of these weights."""
    face = sorted([
        (made_normal(image(matrix, ray)), weight) for ray, weight in zip(RAYS[name], weights) if weight > 0
    ])
    return tuple([ray for ray, weight in face]), tuple([weight for ray, weight in face])


def face_at(table):
    """The triple of the face rows of a positive table, ascending, the scale, and the weights of these rows [11.2]."""
    name, matrix, scale, weights = place_of(table)
    rows, told = face_along(name, matrix, weights)
    return (rows, scale, told)


def independent_pairs(face):
    """The first pairs of a face with as many independent rows as these have numbers."""
    found = []
    for row, weight in face:
        rows = [told for told, _ in found] + [row]
        if len(lead_steps(rows)) == len(rows):
            found.append((row, weight))
    return found


def signed_rows(face, weight):
    """The rows of a face with a weight, and their opposites."""
    rows = [row for row, told in face if told == weight]
    return rows + [tuple([-number for number in row]) for row in rows]


def leading_matrix(rows, images):
    """The square of integers that leads independent rows to their images, if there is one."""
    return divided(multiplied(turned(images), turned(adjugate(rows))), determinant_of(rows))


def leads_face(matrix, face, other):
    """Whether a square of integers is a matrix that leads a face to another one, up to signs."""
    if determinant_of(matrix) not in (1, -1):
        return False
    return sorted([(made_normal(image(matrix, row)), weight) for row, weight in face]) == other


class FaceSearch:
    """The search for a matrix that leads a face to another one, up to signs, with equal weights.

    Such a matrix leads the sum of the weighted squares to that of the other face. So it
    keeps the pairings of rows by the adjoints of both sums, which leaves few images.
    """

    def __init__(self, face, other):
        self.face, self.other = face, other
        self.back, self.other_back = adjoint_of_face(face), adjoint_of_face(other)
        self.told = independent_pairs(face)
        self.found = None
        self.look([])

    def goes(self, images, row):
        """Whether a row has the pairings of the next row with those whose images are known, and with itself."""
        at = len(images)
        rows = [told for told, _ in self.told]
        return all([
            pairing_of(self.other_back, behind, row) == pairing_of(self.back, ahead, rows[at])
            for ahead, behind in zip(rows, images + [row])
        ])

    def look(self, images):
        """Looks for a matrix that leads the first rows to these images."""
        if len(images) == len(self.told):
            matrix = leading_matrix(tuple([row for row, _ in self.told]), tuple(images))
            # If only fractions lead to the images, the integers do not, which is seen here.
            if leads_face(matrix, self.face, self.other):
                self.found = matrix
            return
        for row in signed_rows(self.other, self.told[len(images)][1]):
            if self.found is None and self.goes(images, row):
                self.look(images + [row])


def adjoint_of_face(face):
    """The adjoint of the sum of the weighted squares of a face."""
    return adjugate(squares_sum([row for row, _ in face], [weight for _, weight in face]))


def are_faces_alike(face, other):
    """Whether some matrix leads a face to another one, up to signs, with equal weights."""
    return FaceSearch(face, other).found is not None
