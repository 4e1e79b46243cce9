"""Orders of a diagram's boxes on their ranks, and the crossings between its edges."""
