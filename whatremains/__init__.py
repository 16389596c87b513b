"""Whatremains: what is still to do, caught, kept, gone on with once or often."""
