"""Tables with gaps, and what holds however they are filled."""
