"""Goods under seal: journeys, guarantees and the news that offices send of them."""
