package lexis

import (
	"slices"

	"rowan/api"
)

// Reader of tokens.
type Reader struct {
	tokens []api.Token
	at     int // of the token where it is; as many as there are: behind the last one
}

// NewReader at the first token.
func NewReader(l []api.Token) *Reader {
	return &Reader{tokens: slices.Clone(l)}
}

// Peek: the token where it is.
func (r *Reader) Peek() api.Token {
	if r == nil || len(r.tokens) == 0 {
		return api.Token{Kind: api.End}
	}
	if r.at < len(r.tokens) {
		return r.tokens[r.at]
	}
	return api.Token{Kind: api.End, At: r.tokens[len(r.tokens)-1].At}
}

// Take it, and go on.
func (r *Reader) Take() api.Token {
	t := r.Peek()
	// Behind the last token there is nowhere to go on to.
	if r != nil && r.at < len(r.tokens) {
		r.at++
	}
	return t
}

// Is it this sign?
func (r *Reader) Is(text string) bool {
	t := r.Peek()
	return t.Kind == api.Sign && t.Text == text
}

// Skip this sign.
func (r *Reader) Skip(text string) bool {
	if !r.Is(text) {
		return false
	}
	r.Take()
	return true
}
