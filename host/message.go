package host

import "hostel/api"

// letter is a send on its way from the tenant that sent it.
type letter struct {
	sender int
	sent   api.Sent
}

// deliver brings a letter to each other tenant that gets what is sent to its topic.
func (h *Host) deliver(x letter) {
	for t := range h.tenants {
		// A sender may have the topic in its own Sub: what it sends does not come back to it.
		if t != x.sender {
			h.tenants[t].receive(h.frames, x)
		}
	}
}

// receive lays a letter into the box, in the frame n, if the tenant is there to get it and the sender has room.
func (x *tenant) receive(n int, l letter) {
	if x.phase != api.In || !hasBit(x.manifest.Sub, l.sent.Topic) {
		return
	}
	by := uint8(l.sender + 1)
	// Each sender has a share of its own, so that none can keep another's messages out.
	if x.waitingBy(by) >= x.manifest.Share {
		x.note(n, api.Lost, uint16(l.sent.Topic), l.sent.Value)
		return
	}
	x.box = append(x.box, api.Event{What: api.Message, By: by, Arg: l.sent.Value, From: l.sent.Topic})
}

// waitingBy is how many Messages by one sender are in the box.
func (x *tenant) waitingBy(by uint8) int {
	waiting := 0
	for _, event := range x.box {
		if event.What == api.Message && event.By == by {
			waiting++
		}
	}
	return waiting
}
