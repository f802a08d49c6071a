package edi

import "wagonpool/api"

// letters are the letters of the elements of numbers, in the order of these and of the elements.
const letters = "wponftcdkga"

// The letters of the other elements.
const (
	refLetter  = 'r'
	textLetter = 'x'
	partLetter = 'q'
)

// numbers returns pointers to the fields that contain a number, without Kind and Ref, in the order of their declaration.
func numbers(it *api.Item) [len(letters)]*int {
	return [...]*int{&it.Wagon, &it.Place, &it.Other, &it.Number, &it.From, &it.To, &it.Code, &it.Dest, &it.Class, &it.Weight, &it.Amount}
}

// isKind reports whether k is the kind of an item.
func isKind(k int) bool {
	return between(api.ItRead, k, api.ItOrder)
}

// fitted returns 1 if a component was fitted, otherwise 0.
func fitted(p api.Part) int {
	if p.Fitted {
		return 1
	}
	return 0
}

// between reports whether least <= a <= greatest.
func between(least, a, greatest int) bool {
	return least <= a && a <= greatest
}
