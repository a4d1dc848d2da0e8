// Package json: the JSON texts of which policies are made.
package json

// Value is a JSON value: an Object, an Array, a String, a Bool or a Null.
type Value interface{ isValue() }

// Object has its members in the order in which they stand; a name may stand twice.
type Object []Member

// Member is a name in an object, and what belongs to it.
type Member struct {
	Name  string
	Value Value
}

// Array has its values in the order in which they stand.
type Array []Value

// String is the text that a string stands for.
type String string

// Bool is true or false.
type Bool bool

// Null is null.
type Null struct{}

func (Object) isValue() {}
func (Array) isValue()  {}
func (String) isValue() {}
func (Bool) isValue()   {}
func (Null) isValue()   {}
