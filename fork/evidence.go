package fork

import (
	"trustflow/api"
	"trustflow/statement"
	"trustflow/wire"
)

// Check returns OK if f is evidence, otherwise the first error that applies.
func Check(f api.Fork) api.Errno {
	both := faces(f)
	for _, s := range both {
		if err := statement.Check(s); err != api.OK {
			return err
		}
	}
	for _, s := range both {
		if !statement.Sealed(s) {
			return api.ErrSeal
		}
	}
	if !isTwoFaced(f) {
		return api.ErrEvidence
	}
	return api.OK
}

// Encode returns the bytes of evidence: those of both statements, each behind its length.
func Encode(f api.Fork) ([]byte, api.Errno) {
	if err := Check(f); err != api.OK {
		return nil, err
	}
	var b []byte
	for _, s := range faces(f) {
		// Statements of evidence are well formed and sealed: there is no other error.
		face, _ := statement.Encode(s)
		b = wire.Text(b, string(face))
	}
	return b, api.OK
}

// Decode returns the evidence that Encode makes b of, ErrForm if there is none.
func Decode(b []byte) (api.Fork, api.Errno) {
	var both [2]api.Statement
	for i := range both {
		text, rest, ok := wire.TakeText(b, len(b))
		s, err := statement.Decode([]byte(text))
		if !ok || err != api.OK {
			return api.Fork{}, api.ErrForm
		}
		both[i], b = s, rest
	}
	f := api.Fork{First: both[0], Second: both[1]}
	// Statements that have been decoded are well formed and sealed.
	if len(b) > 0 || !isTwoFaced(f) {
		return api.Fork{}, api.ErrForm
	}
	return f, api.OK
}

// faces returns both statements of f, to be gone through in their order.
func faces(f api.Fork) [2]api.Statement {
	return [2]api.Statement{f.First, f.Second}
}

// isTwoFaced reports whether two sealed statements are different ones of one author with one number, the one with the lesser digest first.
func isTwoFaced(f api.Fork) bool {
	a, b := f.First, f.Second
	// Their seals are right, so these have the digests already.
	return a.Author == b.Author && a.Number == b.Number && a.Seal.Digest < b.Seal.Digest
}
