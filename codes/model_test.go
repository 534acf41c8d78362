package codes_test

import (
	"iter"
	"math"
	"slices"
	"strconv"
	"strings"
	"testing"

	"passepartout/codes"
)

// What the document lists, in its own words.
const (
	recordsListed    = "20 change_cipher_spec, 21 alert, 22 handshake, 23 application_data"
	handshakesListed = "1 client_hello, 2 server_hello, 4 new_session_ticket, 5 end_of_early_data, 8 encrypted_extensions, 11 certificate, 13 certificate_request, 15 certificate_verify, 20 finished, 24 key_update"
	extensionsListed = "0 server_name, 1 max_fragment_length, 5 status_request, 10 supported_groups, 13 signature_algorithms, 14 use_srtp, 15 heartbeat, 16 application_layer_protocol_negotiation, 18 signed_certificate_timestamp, 19 client_certificate_type, 20 server_certificate_type, 21 padding, 41 pre_shared_key, 42 early_data, 43 supported_versions, 44 cookie, 45 psk_key_exchange_modes, 47 certificate_authorities, 48 oid_filters, 49 post_handshake_auth, 50 signature_algorithms_cert, 51 key_share"
)

// one is a code with its name.
type one struct {
	code int
	name string
}

// listed are the document's codes by their kinds, which are 0, 1 and 2.
func listed(t *testing.T) [][]one {
	t.Helper()
	var kinds [][]one
	for _, text := range []string{recordsListed, handshakesListed, extensionsListed} {
		var kind []one
		for word := range strings.SplitSeq(text, ", ") {
			digits, name, _ := strings.Cut(word, " ")
			code, err := strconv.Atoi(digits)
			if err != nil || name == "" {
				t.Fatalf("no code: %q", word)
			}
			kind = append(kind, one{code, name})
		}
		kinds = append(kinds, kind)
	}
	return kinds
}

// otherKinds are kinds that there aren't, those among them that look like one if only their lower bytes are asked.
func otherKinds() []int {
	kinds := []int{math.MinInt, math.MinInt + 1, math.MinInt + 2, math.MaxInt - 1, math.MaxInt, -1 << 32, -1 << 8}
	for kind := -100; kind < 0; kind++ {
		kinds = append(kinds, kind)
	}
	for kind := 3; kind <= 300; kind++ {
		kinds = append(kinds, kind)
	}
	for kind := range 3 {
		kinds = append(kinds, kind+1<<8, kind+1<<16, kind+1<<31, kind+1<<32, kind+1<<62)
	}
	return kinds
}

// otherCodes are numbers that are no codes of any kind, but look like a code if only a part of their bits is asked.
func otherCodes(code int) []int {
	codes := []int{math.MinInt, math.MinInt + code, math.MaxInt, math.MaxInt - code, -code - 1, ^code - 255}
	for _, up := range []int{8, 15, 16, 31, 32, 62} {
		codes = append(codes, code+1<<up, code-1<<up)
	}
	if code > 0 {
		codes = append(codes, -code)
	}
	return codes
}

// told is all that a function to range over tells.
func told(all iter.Seq2[int, string]) []one {
	var tells []one
	for code, name := range all {
		tells = append(tells, one{code, name})
	}
	return tells
}

// tells asks what a function to range over tells, in order.
func tells(t *testing.T, what string, all iter.Seq2[int, string], want []one) {
	t.Helper()
	if all == nil {
		t.Fatalf("%s: nil", what)
	}
	if is := told(all); !slices.Equal(is, want) {
		t.Errorf("%s: %v; want %v", what, is, want)
	}
}

// hasName asks for a code's name, hasCode for a name's code.
func hasName(t *testing.T, kind, code int, want string) {
	t.Helper()
	if name, ok := codes.Name(kind, code); name != want || !ok {
		t.Errorf("Name(%d, %d): %q, %t; want %q", kind, code, name, ok, want)
	}
}

func hasCode(t *testing.T, kind int, name string, want int) {
	t.Helper()
	if code, ok := codes.Code(kind, name); code != want || !ok {
		t.Errorf("Code(%d, %q): %d, %t; want %d", kind, name, code, ok, want)
	}
}

// hasNoName asks that a code has none, hasNoCode that a name has none, and that nothing stands beside the false.
func hasNoName(t *testing.T, kind, code int) {
	t.Helper()
	if name, ok := codes.Name(kind, code); name != "" || ok {
		t.Errorf("Name(%d, %d): %q, %t; want none", kind, code, name, ok)
	}
}

func hasNoCode(t *testing.T, kind int, name string) {
	t.Helper()
	if code, ok := codes.Code(kind, name); code != 0 || ok {
		t.Errorf("Code(%d, %q): %d, %t; want none", kind, name, code, ok)
	}
}
