package window

import (
	"cmp"
	"slices"

	"wagonpool/api"
)

// side is a side that is changed, together with what else comes of the change.
type side struct {
	api.Peer
	delivered [][]byte
	reset     bool
}

// sideOf returns a side like p that shares no memory with it, so that p stays as it is.
func sideOf(p api.Peer) *side {
	s := side{Peer: p}
	s.Queue = make([][]byte, len(p.Queue))
	for i, data := range p.Queue {
		s.Queue[i] = copied(data)
	}
	s.Early = make([]api.Packet, len(p.Early))
	for i, k := range p.Early {
		k.Data = copied(k.Data)
		s.Early[i] = k
	}
	return &s
}

// copied returns a message in memory of its own.
func copied(data []byte) []byte {
	b := make([]byte, len(data))
	copy(b, data)
	return b
}

func (s *side) offer(data []byte) {
	s.Queue = append(s.Queue, copied(data))
}

// isDue reports whether the queue must be sent now. If it was sent after now, the clock was set back since, and does not tell how long ago that was.
func (s *side) isDue(now int) bool {
	return len(s.Queue) > 0 && (s.SentAt == never || s.SentAt > now || s.SentAt <= now-patience)
}

// send returns the first messages of the queue as packets.
func (s *side) send(now int) []api.Packet {
	s.SentAt = now
	l := make([]api.Packet, min(len(s.Queue), mostSent))
	for i := range l {
		l[i] = s.packet(s.First+i, copied(s.Queue[i]))
	}
	return l
}

// confirm returns a packet that only acknowledges what was received, at any time.
func (s *side) confirm(int) []api.Packet {
	return []api.Packet{s.packet(noSeq, nil)}
}

func (s *side) packet(seq int, data []byte) api.Packet {
	return api.Packet{Epoch: s.Epoch, To: s.Other, Seq: seq, Ack: s.Next, Data: data}
}

// meet resets the side if the sender of k was restarted: a new epoch of it knows nothing of what was sent before, and counts anew.
func (s *side) meet(k api.Packet) {
	if k.Epoch > s.Other {
		s.Peer = api.Peer{Epoch: s.Epoch, Other: k.Epoch, SentAt: never}
		s.reset = true
	}
}

// forget removes from the queue what k acknowledges.
func (s *side) forget(k api.Packet) {
	if n := k.Ack - s.First; between(1, n, len(s.Queue)) {
		s.Queue = slices.Delete(s.Queue, 0, n)
		s.First = k.Ack
		s.SentAt = never
	}
}

// receive delivers the message of k and those that have waited for it, or lets it wait for those before it.
func (s *side) receive(k api.Packet) {
	switch {
	case k.Seq == s.Next:
		s.deliver(copied(k.Data))
		for len(s.Early) > 0 && s.Early[0].Seq == s.Next {
			s.deliver(s.Early[0].Data)
			s.Early = slices.Delete(s.Early, 0, 1)
		}
	case between(s.Next+1, k.Seq, s.Next+ahead-1):
		s.keep(k)
	}
}

func (s *side) deliver(data []byte) {
	s.delivered = append(s.delivered, data)
	s.Next++
}

// keep inserts the message of k in those that came early, unless it is one of them.
func (s *side) keep(k api.Packet) {
	i, found := slices.BinarySearchFunc(s.Early, k.Seq, func(early api.Packet, seq int) int { return cmp.Compare(early.Seq, seq) })
	if !found {
		s.Early = slices.Insert(s.Early, i, api.Packet{Seq: k.Seq, Data: copied(k.Data)})
	}
}
