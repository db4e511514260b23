package shard

import "handover/api"

// fresh copies a shard with all that it reaches, so that a command may write
// into the copy.
func fresh(s api.Shard) api.Shard {
	s.Table = freshList(s.Table)
	s.Map = freshList(s.Map)
	s.Dups = freshList(s.Dups)
	s.In = freshList(s.In)
	s.Out = freshList(s.Out)
	for i, lane := range s.Out {
		s.Out[i].Queue = freshQueue(lane.Queue)
	}
	return s
}

func freshQueue(queue []api.Range) []api.Range {
	queue = freshList(queue)
	for i, r := range queue {
		queue[i].Rows = freshList(r.Rows)
		queue[i].Dups = freshList(r.Dups)
	}
	return queue
}

// freshList begins with nil, for a list of length 0 may have spare room that
// belongs to somebody else.
func freshList[T any](list []T) []T { return append([]T(nil), list...) }
