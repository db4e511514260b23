package cluster

import "handover/api"

// step lets a replica work, and puts onto the network what it hands out.
func (c *Cluster) step(r *replica, work func()) {
	packets := make(chan api.Packet)
	through := make(chan struct{})
	go r.run(work, packets, through)
	for {
		select {
		case p := <-packets:
			c.join(p)
		case <-through:
			return
		}
	}
}

// run is a step. What it defers is done from the last to the first: whatever
// way the work ends, no packet goes out ahead of the record.
func (r *replica) run(work func(), packets chan<- api.Packet, through chan<- struct{}) {
	defer close(through)
	defer r.handOut(packets)
	defer r.writeDown()
	work()
}

func (r *replica) handOut(packets chan<- api.Packet) {
	for _, p := range r.outbox {
		packets <- p
	}
	r.outbox = nil
}
