package codes

import (
	"iter"
	"sync"
)

// named is a code with its name.
type named struct {
	code int
	name string
}

// The lists stand by their kinds. They are written when All is called first, and never again; no answer is taken from them.
var (
	once  sync.Once
	lists [3][]named
)

// fill makes the lists.
func fill() {
	for kind := range lists {
		lists[kind] = list(kind)
	}
}

// each goes through the codes of a kind, rising.
func each(kind int) iter.Seq2[int, string] {
	return func(yield func(int, string) bool) {
		for _, c := range list(kind) {
			if !yield(c.code, c.name) {
				return
			}
		}
	}
}

// list are the codes of a kind, rising, made anew at each call; of other kinds none.
func list(kind int) []named {
	switch kind {
	case Records:
		return records()
	case Handshakes:
		return handshakes()
	case Extensions:
		return extensions()
	}
	return nil
}

func records() []named {
	return []named{
		{20, "change_cipher_spec"},
		{21, "alert"},
		{22, "handshake"},
		{23, "application_data"},
	}
}

func handshakes() []named {
	return []named{
		{1, "client_hello"},
		{2, "server_hello"},
		{4, "new_session_ticket"},
		{5, "end_of_early_data"},
		{8, "encrypted_extensions"},
		{11, "certificate"},
		{13, "certificate_request"},
		{15, "certificate_verify"},
		{20, "finished"},
		{24, "key_update"},
	}
}

func extensions() []named {
	return []named{
		{0, "server_name"},
		{1, "max_fragment_length"},
		{5, "status_request"},
		{10, "supported_groups"},
		{13, "signature_algorithms"},
		{14, "use_srtp"},
		{15, "heartbeat"},
		{16, "application_layer_protocol_negotiation"},
		{18, "signed_certificate_timestamp"},
		{19, "client_certificate_type"},
		{20, "server_certificate_type"},
		{21, "padding"},
		{41, "pre_shared_key"},
		{42, "early_data"},
		{43, "supported_versions"},
		{44, "cookie"},
		{45, "psk_key_exchange_modes"},
		{47, "certificate_authorities"},
		{48, "oid_filters"},
		{49, "post_handshake_auth"},
		{50, "signature_algorithms_cert"},
		{51, "key_share"},
	}
}
