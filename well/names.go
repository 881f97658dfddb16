package well

import "gnomon/api"

// What a name is declared as, or used as.
const (
	none = iota
	variable
	array
	kinds
)

// names: what each name is declared as.
type names map[string]int

// kindOf: what is declared. A tree has no other sign of a variable than the size 0.
func kindOf(d api.Decl) int {
	if d.Size == 0 {
		return variable
	}
	return array
}

// most: how many of a kind may be declared.
func most(kind int) int {
	if kind == variable {
		return api.MaxScalars
	}
	return api.MaxArrays
}

// declare notes the names of decls, up to the first that may not be declared so: that one, and why not.
func (n names) declare(decls []api.Decl) (at string, why api.Errno) {
	var many [kinds]int
found:
	for _, d := range decls {
		kind := kindOf(d)
		many[kind]++
		switch {
		case n[d.Name] != none:
			at, why = d.Name, api.ErrWellTwice
			break found
		case d.Size > api.MaxSize:
			at, why = d.Name, api.ErrWellSize
			break found
		case many[kind] > most(kind):
			at, why = d.Name, api.ErrWellMany
			break found
		}
		n[d.Name] = kind
	}
	return at, why
}

// misused: the first name in a body that may not be used so, and why not.
func (n names) misused(body []api.Stmt) (at string, why api.Errno) {
found:
	for _, s := range stmts(nil, body) {
		for _, u := range uses(s) {
			switch n[u.name] {
			case none:
				at, why = u.name, api.ErrWellNone
				break found
			case u.kind:
			default:
				at, why = u.name, api.ErrWellKind
				break found
			}
		}
	}
	return at, why
}
