package sign_test

import (
	"strings"
	"testing"

	"wagonpool/api"
	"wagonpool/sign"
)

// checkSign compares a signature; the zero signature goes with an error.
func checkSign(t *testing.T, secret uint64, msg string, want api.Sig, reason api.Errno) {
	t.Helper()
	if s, e := sign.Sign(secret, []byte(msg)); s != want || e != reason {
		t.Errorf("Sign(%d, %d bytes %.20q): %v, %v, want %v, %v", secret, len(msg), msg, s, e, want, reason)
	}
}

// known contains signatures that were computed elsewhere.
func known() []struct {
	secret uint64
	msg    string
	s      api.Sig
} {
	return []struct {
		secret uint64
		msg    string
		s      api.Sig
	}{
		{1, "", api.Sig{C: 148767852584365940, S: 704235375515683504}},
		{1, "abc", api.Sig{C: 13352866657094398, S: 817277858621652709}},
		{1, longest("a"), api.Sig{C: 1054937478200372558, S: 1057406135150215569}},
		{2, "\x00", api.Sig{C: 62240919646500771, S: 33270802743386631}},
		{5, "", api.Sig{C: 977278792955877545, S: 972304415791720551}},
		{5, longest("\x00"), api.Sig{C: 869913066494281229, S: 123880329810656898}},
		{q / 2, "abc", api.Sig{C: 971393105592741246, S: 132200979366490280}},
		{q - 2, "\x00", api.Sig{C: 765543723997884610, S: 447657046504929826}},
		{q - 1, "", api.Sig{C: 948840831218294295, S: 878064679490230698}},
		{q - 1, "abc", api.Sig{C: 700954582965757984, S: 862112224568009050}},
		{q - 1, longest("\x00"), api.Sig{C: 1112065475201486635, S: 873184396796453942}},
		{816508248444966769, "abc", api.Sig{C: 1090792198026198904, S: 609087013363129245}},
		{816508248444966769, longest("a"), api.Sig{C: 1066088282407439298, S: 957363004963727089}},
	}
}

// P3.4: signatures that were computed elsewhere.
func TestSignKnown(t *testing.T) {
	for _, c := range known() {
		checkSign(t, c.secret, c.msg, c.s, api.OK)
	}
}

// P3.4: all secret keys with all messages.
func TestSignSpelledOut(t *testing.T) {
	for _, secret := range secrets() {
		for _, msg := range messages() {
			checkSign(t, secret, msg, signed(secret, msg), api.OK)
		}
	}
}

// P3.4: secret keys and messages that nobody chose.
func TestSignRandom(t *testing.T) {
	l := randomNumbers(4, 4000)
	for i := 0; i < len(l); i += 2 {
		secret, msg := 1+l[i]%(q-1), spelled(l[i+1])[:l[i]%9]
		checkSign(t, secret, msg, signed(secret, msg), api.OK)
	}
}

// P3.4: messages of all lengths up to several blocks of the hash function.
func TestSignLengths(t *testing.T) {
	for n := range 300 {
		msg := allBytes(n)
		checkSign(t, q-7, msg, signed(q-7, msg), api.OK)
	}
}

// P3.4: a number that is no secret key, whatever the message is.
func TestSignKeyErrors(t *testing.T) {
	for _, secret := range wrongSecrets() {
		for _, msg := range []string{"", "abc", longest("a")} {
			checkSign(t, secret, msg, api.Sig{}, api.ErrKey)
		}
	}
}

// P3.4: the longest message is signed; a longer one is not.
func TestSignLimit(t *testing.T) {
	for _, secret := range []uint64{1, 5, q - 1} {
		for _, b := range []string{"a", "\x00"} {
			checkSign(t, secret, longest(b), signed(secret, longest(b)), api.OK)
			checkSign(t, secret, longest(b)+b, api.Sig{}, api.ErrLimit)
			checkSign(t, secret, strings.Repeat(longest(b), 5), api.Sig{}, api.ErrLimit)
		}
	}
}

// P3.4: of two errors, that of the key is reported.
func TestSignErrorOrder(t *testing.T) {
	for _, secret := range wrongSecrets() {
		checkSign(t, secret, longest("a")+"a", api.Sig{}, api.ErrKey)
	}
}

// P3.4: each message has a nonce of its own, and so has each key: otherwise two signatures would disclose a key.
func TestSignNonces(t *testing.T) {
	residues := map[uint64]string{}
	for _, secret := range secrets() {
		public, _ := sign.Public(secret)
		for _, msg := range messages() {
			s, _ := sign.Sign(secret, []byte(msg))
			r := residueOf(public, s)
			if other, ok := residues[r]; ok {
				t.Errorf("the signatures of %.20q and %.20q have the same residue", msg, other)
			}
			residues[r] = msg
		}
	}
}

// R3: nil is an empty message.
func TestNilMessage(t *testing.T) {
	for _, secret := range secrets() {
		public, _ := sign.Public(secret)
		s, e := sign.Sign(secret, nil)
		if s != signed(secret, "") || e != api.OK || !sign.Verify(public, nil, s) || !sign.Verify(public, []byte{}, s) {
			t.Errorf("Sign(%d, nil): %v, %v", secret, s, e)
		}
	}
}
