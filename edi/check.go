package edi

import "wagonpool/api"

// The greatest values of fields.
const (
	maxNumber = 1000000000 // of a waybill
	maxLoad   = 1000000    // of a waybill
	maxCount  = 1000       // of the wagons of an order
	maxAmount = 1000000000
	maxDamage = 8 // that a handover reports
	maxSerial = 1 << 30
)

// bound contains the least and the greatest value of a field, or the least and the greatest length.
type bound struct{ least, greatest int }

// bounds returns the bounds of the fields that an item uses, by the letters of their elements. The bound of every other field, the zero value, admits only zero.
func bounds(p api.Pool, it api.Item) map[rune]bound {
	index := func(n int) bound { return bound{0, n - 1} }
	wagon, place, shipper := index(len(p.Fleet.Wagons)), index(len(p.Network.Places)), index(len(p.Shippers))
	class := index(api.MaxClasses)
	charge := bound{api.ChHire, api.ChargeKinds}
	from, to := bound{0, api.MaxTime}, bound{it.From, api.MaxTime}
	switch it.Kind {
	case api.ItRead:
		return map[rune]bound{'w': wagon, 'o': index(len(p.Readers)), 'f': from}
	case api.ItStay:
		return map[rune]bound{'w': wagon, 'p': place, 'f': from, 't': to}
	case api.ItDeliver, api.ItReceive:
		return map[rune]bound{'w': wagon, 'p': place, 'o': index(len(p.Railways)), 'f': from, 'c': {0, maxDamage}}
	case api.ItWaybill:
		return map[rune]bound{'n': {1, maxNumber}, 'w': wagon, 'o': shipper, 'p': place, 'd': place, 'k': class, 'g': {0, maxLoad}, 'f': from}
	case api.ItPlaced:
		return map[rune]bound{'w': wagon, 'p': place, 'o': shipper, 'f': from, 'c': {0, 1}}
	case api.ItReleased:
		return map[rune]bound{'w': wagon, 'p': place, 'o': shipper, 'f': from}
	case api.ItDamaged:
		return map[rune]bound{'w': wagon, 'f': from, 'c': {1, api.Destroyed}}
	case api.ItRepaired:
		return map[rune]bound{'w': wagon, 'p': place, 'f': from, 't': to, 'c': {api.ByCustodian, api.ByOwner}, 'a': {0, maxAmount}, partLetter: {0, api.MaxParts}}
	case api.ItRecall:
		return map[rune]bound{'o': index(api.MaxOwners), partLetter: {1, api.MaxParts}}
	case api.ItTariff, api.ItAmend:
		return map[rune]bound{'n': charge, 'f': from, textLetter: {1, api.MaxText}}
	case api.ItCancel:
		return map[rune]bound{'n': charge, 'f': from}
	case api.ItOrder:
		return map[rune]bound{'o': shipper, 'p': place, 'k': class, 'n': index(len(p.Fleet.Types)), 'g': {1, maxCount}, 'f': from, 't': to, 'a': {0, maxAmount}}
	}
	return nil // ItRetract uses only Ref
}

// withinBounds reports whether all fields of an item but Kind and Ref are within their bounds.
func withinBounds(it api.Item, l map[rune]bound) bool {
	within := func(letter rune, n int) bool {
		return between(l[letter].least, n, l[letter].greatest)
	}
	fields := numbers(&it)
	for i, letter := range letters {
		if !within(letter, *fields[i]) {
			return false
		}
	}
	return within(textLetter, len(it.Text)) && within(partLetter, len(it.Parts))
}

// validRef reports whether the reference of an item names a record; only a retraction must have one.
func validRef(it api.Item) bool {
	if it.Ref == (api.Ref{}) {
		return it.Kind != api.ItRetract
	}
	return between(0, it.Ref.Railway, api.MaxRailways-1) && between(1, it.Ref.No, api.MaxRecords)
}

// validPlace reports whether the place of an item that is within its bounds has the kind, and the railways, that it must have.
func validPlace(p api.Pool, it api.Item) bool {
	switch it.Kind {
	case api.ItDeliver, api.ItReceive:
		l := p.Network.Places[it.Place]
		return l.Kind == api.Interchange && (it.Other == l.Railway || it.Other == l.Other)
	case api.ItRepaired:
		return p.Network.Places[it.Place].Kind == api.Shop
	}
	return true
}

// validParts reports whether all components of an item are valid; those of a recall are not fitted.
func validParts(it api.Item) bool {
	for _, part := range it.Parts {
		valid := between(api.Wheelset, part.Kind, api.Valve) && between(0, part.Serial, maxSerial)
		if !valid || part.Fitted && it.Kind == api.ItRecall {
			return false
		}
	}
	return true
}
