package window

import "wagonpool/api"

// isPeer reports whether p is valid.
func isPeer(p api.Peer) bool {
	return between(0, p.Epoch, maxEpoch) && between(unknown, p.Other, maxEpoch) &&
		between(0, p.First, maxNumber) && between(0, p.Next, maxNumber) &&
		between(never, p.SentAt, api.MaxTime) &&
		isQueue(p.Queue, p.First) && isEarly(p.Early, p.Next)
}

// isQueue reports whether messages may wait for acknowledgement, of which the first one has the number first.
func isQueue(queue [][]byte, first int) bool {
	if len(queue) > api.MaxQueue || first+len(queue) > maxNumber {
		return false
	}
	for _, data := range queue {
		if len(data) > maxData {
			return false
		}
	}
	return true
}

// isEarly reports whether messages may wait for those before them, of which the first one has the number next.
func isEarly(early []api.Packet, next int) bool {
	last := next
	for _, k := range early {
		isMessage := k.Epoch == 0 && k.To == 0 && k.Ack == 0 && len(k.Data) <= maxData
		if !isMessage || k.Seq <= last || k.Seq >= min(next+ahead, maxNumber) {
			return false
		}
		last = k.Seq
	}
	return true
}

// isPacket reports whether k is valid.
func isPacket(k api.Packet) bool {
	return between(0, k.Epoch, maxEpoch) && between(noSeq, k.Seq, maxNumber-1) && between(0, k.Ack, maxNumber) && len(k.Data) <= maxData
}

func between(least, a, greatest int) bool {
	return least <= a && a <= greatest
}
