package line

// SetBusy and SetOnLine stand in for Busy (P14) and Fault (P15), which are not
// built yet: without them much of P10 to P12 is never reached.

func SetBusy(x *Line, st int, on bool) { x.stations[st].busy = on }

func SetOnLine(x *Line, st int, s string) { x.stations[st].put = s }
