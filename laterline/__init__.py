"""Laterline: houses that follow a log, lines of time, takeovers and rejoinings."""
