"""Equalkin: algebras that obey the same equations."""
