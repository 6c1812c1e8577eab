package lull_test

import (
	"fmt"

	"lull/lull"
)

func ExampleEngine_Register() {
	e, _ := lull.New(1)
	fmt.Println(e.Register("a !b c within 5", "a !b within 5"))
	fmt.Println(e.Register("a within 5", "a !b !c within 5"))
	fmt.Println(e.Remove(0), e.Remove(0))
	// Output:
	// [0 1] 0 0
	// [] 2 5
	// 0 4
}
