"""Points kept in trees that split the plane."""
