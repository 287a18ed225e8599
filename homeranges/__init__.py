"""Home ranges: animals' sightings on a grid and the ranges that hold them."""
