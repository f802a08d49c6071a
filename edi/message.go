package edi

import (
	"strconv"
	"strings"

	"wagonpool/api"
)

// tags contains the tag of each kind of item, from ItRead on.
var tags = [...]string{
	"READ", "STAY", "DELIVER", "RECEIVE", "WAYBILL", "PLACED", "RELEASED", "DAMAGED",
	"REPAIRED", "RECALL", "TARIFF", "AMEND", "CANCEL", "RETRACT", "ORDER",
}

// The signs of a message, and the digits of an escape.
const (
	separator = "+" // before each element
	point     = "." // between the numbers of an element
	terminal  = "'" // after the last element
	escape    = '?' // before the digits of a byte of a text

	digits = "0123456789abcdef"
)

// message returns the message, of any length, of an item whose kind has a tag.
func message(it api.Item) string {
	var b strings.Builder
	write := func(letter rune, content string) {
		b.WriteString(separator)
		b.WriteRune(letter)
		b.WriteString(content)
	}
	b.WriteString(tags[it.Kind-1])
	if it.Ref != (api.Ref{}) {
		write(refLetter, joined(it.Ref.Railway, it.Ref.No))
	}
	fields := numbers(&it)
	for i, letter := range letters {
		if n := *fields[i]; n != 0 {
			write(letter, joined(n))
		}
	}
	if it.Text != "" {
		write(textLetter, escaped(it.Text))
	}
	for _, p := range it.Parts {
		write(partLetter, joined(p.Kind, p.Serial, fitted(p)))
	}
	b.WriteString(terminal)
	return b.String()
}

// joined returns numbers in decimal digits, with points between them.
func joined(l ...int) string {
	var texts []string
	for _, n := range l {
		texts = append(texts, strconv.Itoa(n))
	}
	return strings.Join(texts, point)
}

// escaped returns a text with the escapes that its bytes need in a message.
func escaped(text string) string {
	var b strings.Builder
	for _, c := range []byte(text) {
		if c < ' ' || c > '~' || c == separator[0] || c == terminal[0] || c == escape {
			b.Write([]byte{escape, digits[c>>4], digits[c&0xf]})
		} else {
			b.WriteByte(c)
		}
	}
	return b.String()
}

// read returns the item that s describes, and whether it describes one. It is lenient: numbers may have leading zeros, and elements any order, for example.
func read(s string) (it api.Item, ok bool) {
	s, ok = strings.CutSuffix(s, terminal)
	elements := strings.Split(s, separator)
	for i, tag := range tags {
		if elements[0] == tag {
			it.Kind = i + 1
		}
	}
	ok = ok && isKind(it.Kind)
	for _, element := range elements[1:] {
		ok = ok && readElement(&it, element)
	}
	return it, ok
}

// readElement adds to an item what an element says of it, and reports whether it says anything.
func readElement(it *api.Item, element string) (ok bool) {
	if element == "" {
		return false
	}
	content := element[1:]
	switch letter := element[0]; letter {
	case refLetter:
		return readNumbers(content, &it.Ref.Railway, &it.Ref.No)
	case textLetter:
		it.Text, ok = unescaped(content)
		return ok
	case partLetter:
		var p api.Part
		var bit int
		ok = readNumbers(content, &p.Kind, &p.Serial, &bit)
		p.Fitted = bit == 1
		it.Parts = append(it.Parts, p)
		return ok
	default:
		i := strings.IndexByte(letters, letter)
		return i >= 0 && readNumbers(content, numbers(it)[i])
	}
}

// readNumbers stores numbers that have points between them, and reports whether there is one for each field.
func readNumbers(s string, fields ...*int) bool {
	l := strings.Split(s, point)
	if len(l) != len(fields) {
		return false
	}
	for i, field := range fields {
		n, err := strconv.Atoi(l[i])
		if err != nil {
			return false
		}
		*field = n
	}
	return true
}

// unescaped returns the text that s stands for, and whether all escapes have two digits.
func unescaped(s string) (text string, ok bool) {
	var b strings.Builder
	for i := 0; i < len(s); i++ {
		c := s[i]
		if c == escape {
			if len(s)-i < 3 {
				return "", false
			}
			n, err := strconv.ParseUint(s[i+1:i+3], 16, 8)
			if err != nil {
				return "", false
			}
			c = byte(n)
			i += 2
		}
		b.WriteByte(c)
	}
	return b.String(), true
}
