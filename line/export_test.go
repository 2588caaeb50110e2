package line

// SetOnLine lets a station say what it would not say by itself, at any time:
// Fault changes only what is there, and only while one station speaks alone.
func SetOnLine(x *Line, st int, s string) { x.stations[st].put = s }
