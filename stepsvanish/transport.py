"""Maps carried along homomorphisms, and maps on direct products."""

from stepsvanish.building import direct_product, is_homomorphism
from stepsvanish.errors import Mismatch, NotHomomorphism
from stepsvanish.maps import GroupMap
from stepsvanish.targets import only_modulus


def pull_back(f, group, images):
    """The map that assigns f(images[x]) to x, for a homomorphism to the group of f."""
    _require_homomorphism(group, f.group, images)
    return GroupMap(group, f.target, [f.images[image] for image in images])


def push_forward(f, group, images):
    """The map that assigns to y the sum of f(x) over all x with images[x] = y."""
    _require_homomorphism(f.group, group, images)
    sums = [f.target.zero] * group.order
    for image, value in zip(images, f.images):
        sums[image] = f.target.plus(sums[image], value)
    return GroupMap(group, f.target, sums)


def external_sum(f, g):
    """The map that assigns f(x) + g(y) to the pair of x and y."""
    _require_same_target(f, g)
    images = [f.target.plus(v, w) for v in f.images for w in g.images]
    return GroupMap(direct_product(f.group, g.group), f.target, images)


def external_product(f, g):
    """The map that assigns the product of f(x) and g(y) to the pair of x and y."""
    _require_same_target(f, g)
    only_modulus(f.target)
    products = [a * b for a in f.part(0) for b in g.part(0)]
    return GroupMap.from_parts(direct_product(f.group, g.group), f.target, [products])


def _require_homomorphism(group, other, images):
    if not is_homomorphism(group, other, images):
        raise NotHomomorphism("the image of a product is not the product of the images")


def _require_same_target(f, g):
    if f.target != g.target:
        raise Mismatch("the targets of the maps differ")
