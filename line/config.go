package line

import "duplex/api"

func isConfig(c api.Config) bool {
	return areTransmissions(c) && areWaits(c) && areCounts(c) && isLost(c)
}

func areTransmissions(c api.Config) bool {
	return (c.Check == api.Xor || c.Check == api.Cyclic) &&
		isWithin(c.Size, 1, api.MaxPart) &&
		isWithin(c.Parts, 1, api.MaxParts)
}

func areWaits(c api.Config) bool {
	return isWithin(c.First, api.MinWait, api.MaxWait) &&
		isWithin(c.Second, api.MinWait+1, api.MaxWait) && c.Second > c.First &&
		isWithin(c.Reply, api.MinWait, api.MaxWait)
}

func areCounts(c api.Config) bool {
	return isWithin(c.Queue, 1, api.MaxQueue) &&
		isWithin(c.Tries, 1, api.MaxTries) &&
		isWithin(c.Waits, 0, api.MaxWaits)
}

// isLost is for Tries and Reply that are within their bounds: of greater
// numbers the product could be anything.
func isLost(c api.Config) bool {
	return isWithin(c.Lost, (c.Tries+2)*c.Reply+2, api.MaxLost)
}

func isWithin(n int, least int, most int) bool {
	return least <= n && n <= most
}
