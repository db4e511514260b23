package cluster

import "math/bits"

// A crowd is some replicas of a group, a bit for each.
type crowd uint8

func (c crowd) with(replica uint8) crowd { return c | 1<<replica }

// isMost tells whether two such crowds of a group always share a replica.
func (c crowd) isMost(size int) bool { return 2*bits.OnesCount8(uint8(c)) > size }
