package reading

// Longer is l with pieces behind it, one wherever isNext tells that one stands next. It is cut at its end first: what is laid behind it must not overwrite what somebody else's list has there.
func Longer[T any](l []T, isNext func() bool, piece func() (T, bool)) ([]T, bool) {
	l = l[:len(l):len(l)]
	for isNext() {
		t, ok := piece()
		if !ok {
			return nil, false
		}
		l = append(l, t)
	}
	return l, true
}

// Separated reads one piece or more, with `;` between them.
func Separated[T any](r *Tokens, piece func() (T, bool)) ([]T, bool) {
	first, ok := piece()
	if !ok {
		return nil, false
	}
	return Longer([]T{first}, func() bool { return r.Sign(";") }, piece)
}

// UpToEnd reads pieces with `;` between them, or none, if there are no tokens.
func UpToEnd[T any](r *Tokens, piece func() (T, bool)) ([]T, bool) {
	if len(r.Rest) == 0 {
		return nil, true
	}
	return Separated(r, piece)
}

// InBraces reads pieces with `;` between them, or none, in braces.
func InBraces[T any](r *Tokens, piece func() (T, bool)) (l []T, ok bool) {
	if !r.Sign("{") {
		return nil, false
	}
	if r.Sign("}") {
		return nil, true
	}
	l, ok = Separated(r, piece)
	return l, ok && r.Sign("}")
}
