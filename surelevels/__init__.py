"""Surelevels: levels known by gauges and by alarms that did not ring."""
