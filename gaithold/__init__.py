"""Gaithold: systems of recurring events and their exact asymptotic rates."""
