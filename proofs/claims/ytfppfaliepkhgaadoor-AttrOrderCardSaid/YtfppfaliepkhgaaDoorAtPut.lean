/- Package attr: what a pair lays into what an info says. -/
import Derived.Test.YtfppfaliepkhgaaDoorAtNameP
import Derived.Test.YtfppfaliepkhgaaDoorAtReadMath
namespace Go.Proofs.YtfppfaliepkhgaaDoor
open Go.RowKit

/-- what put leaves -/
def PutOut (a : At.Attr) (p : At.Pr) (g : Nat) (w : World) (e : Ending) (w' : World) : Prop :=
  ∃ ok a', e = .returned (.bool ok) ∧ w'.heap[g]? = some (.cells (acells a') 27) ∧ At.step a p = (if ok = true then some a' else none) ∧ Below g w w'
theorem at_new {w : World} {g : Nat} {o p : Obj} (h : w.heap[g]? = some o) : (w.alloc p).heap[g]? = some o := (keep h (ext_alloc w p)).1
theorem set_new {w : World} {g c : Nat} {v : Value} {o : Obj} (h : (w.setCell ⟨g, c, none⟩ v).heap[g]? = some o) (p : Obj) : ((w.setCell ⟨g, c, none⟩ v).alloc p).heap[g]? = some o := at_new h
theorem below_set (w : World) (g : Nat) (hg : g < w.heap.size) (c : Nat) (v : Value) (o : Obj) : Below g w ((w.setCell ⟨g, c, none⟩ v).alloc o) := ((Below.refl _ _).setCell (p := ⟨g, c, none⟩) (Nat.le_refl g) v).alloc (by simp [World.setCell]; omega) _
theorem below_new (w : World) (g : Nat) (hg : g < w.heap.size) (o : Obj) : Below g w (w.alloc o) := (Below.refl _ _).alloc (Nat.le_of_lt hg) _

set_option maxHeartbeats 4000000 in
set_option maxRecDepth 100000 in
theorem put_name_text (a : At.Attr) (key text : List UInt8) (g : Nat) (w : World) (hA : w.heap[g]? = some (.cells (acells a) 27)) (hT : Tabs w) (hg2 : 2 ≤ g) (hl : text.length ≤ 1000000000) (hk : key = At.wName) :
    Calls Tryd.prog 22 #[.pointer (some ⟨g, 0, none⟩), .agg #[.string (bs key), .iface 9 (.string (bs text))]] w fun e w' => PutOut a ⟨key, text, false⟩ g w e w' := by
  have u1 := hg2
  have u2 := hl
  have u3 := hT
  clear u1 u2 u3
  have hg : g < w.heap.size := (Array.getElem?_eq_some_iff.1 hA).1
  have hstep := (show At.step a ⟨key, text, false⟩ = (if At.name text = true then some { a with name := text } else none) from by subst hk; cases h : At.name text <;> simp [At.step, h, At.wName, At.wFile, At.wComment, At.wAppend, At.wNoline])
  have t0 : ((bs key).toList == [110, 97, 109, 101]) = true := key_is (w := At.wName) hk
  obtain ⟨y0, y1, y2, y3, y4, y5⟩ := six hA
  have yf := blk_free hA
  replace hstep := Lib.hid hstep
  replace hA := Lib.hid hA
  replace hT := Lib.hid hT
  have ha := asText_text text
  have hW := below_new w g hg (.cells #[.string (bs key), .iface 9 (.string (bs text))] 44)
  have hA2 := set_new (heap_setCell_same _ _ 1 _ _ (.string (bs text)) hA.out) (.cells #[.string (bs key), .iface 9 (.string (bs text))] 44)
  have hW2 := below_set w g hg 1 (.string (bs text)) (.cells #[.string (bs key), .iface 9 (.string (bs text))] 44)
  have hnm := pname_any text _ hl (tabs_low hT.out hW2 hg2)
  replace hA2 := Lib.hid hA2
  replace hW2 := Lib.hid hW2
  clear hk hW
  go_enter Tryd.func22, Tryd.ntmps22
  go_wp2_with (first | (go_at_call 38; refine (ha _).mono ?_; rintro e w' ⟨rfl, rfl⟩) | (go_at_call 14; refine hnm.mono ?_; rintro e w5 ⟨rfl, hb5⟩))
  go_ret
  exact ⟨_, { a with name := text }, rfl, (keep hA2.out hb5).1, hstep.out, hW2.out.trans (hb5.mono (Nat.le_of_lt (by simp; omega)))⟩

set_option maxHeartbeats 4000000 in
set_option maxRecDepth 100000 in
theorem put_name_alone (a : At.Attr) (key text : List UInt8) (g : Nat) (w : World) (hA : w.heap[g]? = some (.cells (acells a) 27)) (hT : Tabs w) (hg2 : 2 ≤ g) (hl : text.length ≤ 1000000000) (hk : key = At.wName) :
    Calls Tryd.prog 22 #[.pointer (some ⟨g, 0, none⟩), .agg #[.string (bs key), .iface 4 (.bool true)]] w fun e w' => PutOut a ⟨key, text, true⟩ g w e w' := by
  have u1 := hg2
  have u2 := hl
  have u3 := hT
  clear u1 u2 u3
  have hg : g < w.heap.size := (Array.getElem?_eq_some_iff.1 hA).1
  have hstep := (show At.step a ⟨key, text, true⟩ = (if false = true then some { a with name := [] } else none) from by subst hk; simp [At.step, At.wName, At.wFile, At.wComment, At.wAppend, At.wNoline])
  have t0 : ((bs key).toList == [110, 97, 109, 101]) = true := key_is (w := At.wName) hk
  obtain ⟨y0, y1, y2, y3, y4, y5⟩ := six hA
  have yf := blk_free hA
  replace hstep := Lib.hid hstep
  replace hA := Lib.hid hA
  replace hT := Lib.hid hT
  have ha := asText_flag
  have hW := below_new w g hg (.cells #[.string (bs key), .iface 4 (.bool true)] 44)
  have hA2 := set_new (heap_setCell_same _ _ 1 _ _ (.string ⟨#[]⟩) hA.out) (.cells #[.string (bs key), .iface 4 (.bool true)] 44)
  have hW2 := below_set w g hg 1 (.string ⟨#[]⟩) (.cells #[.string (bs key), .iface 4 (.bool true)] 44)
  replace hA2 := Lib.hid hA2
  replace hW2 := Lib.hid hW2
  clear hk hW
  go_enter Tryd.func22, Tryd.ntmps22
  go_wp2_with (go_at_call 38; refine (ha _).mono ?_; rintro e w' ⟨rfl, rfl⟩)
  go_ret
  exact ⟨_, { a with name := [] }, rfl, hA2.out, hstep.out, hW2.out⟩

set_option maxHeartbeats 4000000 in
set_option maxRecDepth 100000 in
theorem put_file_text (a : At.Attr) (key text : List UInt8) (g : Nat) (w : World) (hA : w.heap[g]? = some (.cells (acells a) 27)) (hT : Tabs w) (hg2 : 2 ≤ g) (hl : text.length ≤ 1000000000) (hk : key = At.wFile) :
    Calls Tryd.prog 22 #[.pointer (some ⟨g, 0, none⟩), .agg #[.string (bs key), .iface 9 (.string (bs text))]] w fun e w' => PutOut a ⟨key, text, false⟩ g w e w' := by
  have u1 := hg2
  have u2 := hl
  have u3 := hT
  clear u1 u2 u3
  have hg : g < w.heap.size := (Array.getElem?_eq_some_iff.1 hA).1
  have hstep := (show At.step a ⟨key, text, false⟩ = (if At.name text = true then some { a with file := text } else none) from by subst hk; cases h : At.name text <;> simp [At.step, h, At.wName, At.wFile, At.wComment, At.wAppend, At.wNoline])
  have t0 : ((bs key).toList == [110, 97, 109, 101]) = false := key_not (w := At.wName) (by rw [hk]; decide)
  have t1 : ((bs key).toList == [102, 105, 108, 101]) = true := key_is (w := At.wFile) hk
  obtain ⟨y0, y1, y2, y3, y4, y5⟩ := six hA
  have yf := blk_free hA
  replace hstep := Lib.hid hstep
  replace hA := Lib.hid hA
  replace hT := Lib.hid hT
  have ha := asText_text text
  have hW := below_new w g hg (.cells #[.string (bs key), .iface 9 (.string (bs text))] 44)
  have hA2 := set_new (heap_setCell_same _ _ 2 _ _ (.string (bs text)) hA.out) (.cells #[.string (bs key), .iface 9 (.string (bs text))] 44)
  have hW2 := below_set w g hg 2 (.string (bs text)) (.cells #[.string (bs key), .iface 9 (.string (bs text))] 44)
  have hnm := pname_any text _ hl (tabs_low hT.out hW2 hg2)
  replace hA2 := Lib.hid hA2
  replace hW2 := Lib.hid hW2
  clear hk hW
  go_enter Tryd.func22, Tryd.ntmps22
  go_wp2_with (first | (go_at_call 38; refine (ha _).mono ?_; rintro e w' ⟨rfl, rfl⟩) | (go_at_call 14; refine hnm.mono ?_; rintro e w5 ⟨rfl, hb5⟩))
  go_ret
  exact ⟨_, { a with file := text }, rfl, (keep hA2.out hb5).1, hstep.out, hW2.out.trans (hb5.mono (Nat.le_of_lt (by simp; omega)))⟩

set_option maxHeartbeats 4000000 in
set_option maxRecDepth 100000 in
theorem put_file_alone (a : At.Attr) (key text : List UInt8) (g : Nat) (w : World) (hA : w.heap[g]? = some (.cells (acells a) 27)) (hT : Tabs w) (hg2 : 2 ≤ g) (hl : text.length ≤ 1000000000) (hk : key = At.wFile) :
    Calls Tryd.prog 22 #[.pointer (some ⟨g, 0, none⟩), .agg #[.string (bs key), .iface 4 (.bool true)]] w fun e w' => PutOut a ⟨key, text, true⟩ g w e w' := by
  have u1 := hg2
  have u2 := hl
  have u3 := hT
  clear u1 u2 u3
  have hg : g < w.heap.size := (Array.getElem?_eq_some_iff.1 hA).1
  have hstep := (show At.step a ⟨key, text, true⟩ = (if false = true then some { a with file := [] } else none) from by subst hk; simp [At.step, At.wName, At.wFile, At.wComment, At.wAppend, At.wNoline])
  have t0 : ((bs key).toList == [110, 97, 109, 101]) = false := key_not (w := At.wName) (by rw [hk]; decide)
  have t1 : ((bs key).toList == [102, 105, 108, 101]) = true := key_is (w := At.wFile) hk
  obtain ⟨y0, y1, y2, y3, y4, y5⟩ := six hA
  have yf := blk_free hA
  replace hstep := Lib.hid hstep
  replace hA := Lib.hid hA
  replace hT := Lib.hid hT
  have ha := asText_flag
  have hW := below_new w g hg (.cells #[.string (bs key), .iface 4 (.bool true)] 44)
  have hA2 := set_new (heap_setCell_same _ _ 2 _ _ (.string ⟨#[]⟩) hA.out) (.cells #[.string (bs key), .iface 4 (.bool true)] 44)
  have hW2 := below_set w g hg 2 (.string ⟨#[]⟩) (.cells #[.string (bs key), .iface 4 (.bool true)] 44)
  replace hA2 := Lib.hid hA2
  replace hW2 := Lib.hid hW2
  clear hk hW
  go_enter Tryd.func22, Tryd.ntmps22
  go_wp2_with (go_at_call 38; refine (ha _).mono ?_; rintro e w' ⟨rfl, rfl⟩)
  go_ret
  exact ⟨_, { a with file := [] }, rfl, hA2.out, hstep.out, hW2.out⟩

set_option maxHeartbeats 4000000 in
set_option maxRecDepth 100000 in
theorem put_style_text (a : At.Attr) (key text : List UInt8) (g : Nat) (w : World) (hA : w.heap[g]? = some (.cells (acells a) 27)) (hT : Tabs w) (hg2 : 2 ≤ g) (hl : text.length ≤ 1000000000) (hk : key = At.wComment) :
    Calls Tryd.prog 22 #[.pointer (some ⟨g, 0, none⟩), .agg #[.string (bs key), .iface 9 (.string (bs text))]] w fun e w' => PutOut a ⟨key, text, false⟩ g w e w' := by
  have u1 := hg2
  have u2 := hl
  have u3 := hT
  clear u1 u2 u3
  have hg : g < w.heap.size := (Array.getElem?_eq_some_iff.1 hA).1
  have hstep := (show At.step a ⟨key, text, false⟩ = (if At.style text = true then some { a with style := text } else none) from by subst hk; cases h : At.style text <;> simp [At.step, h, At.wName, At.wFile, At.wComment, At.wAppend, At.wNoline])
  have t0 : ((bs key).toList == [110, 97, 109, 101]) = false := key_not (w := At.wName) (by rw [hk]; decide)
  have t1 : ((bs key).toList == [102, 105, 108, 101]) = false := key_not (w := At.wFile) (by rw [hk]; decide)
  have t2 : ((bs key).toList == [99, 111, 109, 109, 101, 110, 116]) = true := key_is (w := At.wComment) hk
  obtain ⟨y0, y1, y2, y3, y4, y5⟩ := six hA
  have yf := blk_free hA
  replace hstep := Lib.hid hstep
  replace hA := Lib.hid hA
  replace hT := Lib.hid hT
  have ha := asText_text text
  have hsy := fun w => pstyle_any text w (by omega)
  have hW := below_new w g hg (.cells #[.string (bs key), .iface 9 (.string (bs text))] 44)
  have hA2 := set_new (heap_setCell_same _ _ 3 _ _ (.string (bs text)) hA.out) (.cells #[.string (bs key), .iface 9 (.string (bs text))] 44)
  have hW2 := below_set w g hg 3 (.string (bs text)) (.cells #[.string (bs key), .iface 9 (.string (bs text))] 44)
  replace hA2 := Lib.hid hA2
  replace hW2 := Lib.hid hW2
  clear hk hW
  go_enter Tryd.func22, Tryd.ntmps22
  go_wp2_with (first | (go_at_call 38; refine (ha _).mono ?_; rintro e w' ⟨rfl, rfl⟩) | (go_at_call 45; refine (hsy _).mono ?_; rintro e w' ⟨rfl, rfl⟩))
  go_ret
  exact ⟨_, { a with style := text }, rfl, hA2.out, hstep.out, hW2.out⟩

set_option maxHeartbeats 4000000 in
set_option maxRecDepth 100000 in
theorem put_style_alone (a : At.Attr) (key text : List UInt8) (g : Nat) (w : World) (hA : w.heap[g]? = some (.cells (acells a) 27)) (hT : Tabs w) (hg2 : 2 ≤ g) (hl : text.length ≤ 1000000000) (hk : key = At.wComment) :
    Calls Tryd.prog 22 #[.pointer (some ⟨g, 0, none⟩), .agg #[.string (bs key), .iface 4 (.bool true)]] w fun e w' => PutOut a ⟨key, text, true⟩ g w e w' := by
  have u1 := hg2
  have u2 := hl
  have u3 := hT
  clear u1 u2 u3
  have hg : g < w.heap.size := (Array.getElem?_eq_some_iff.1 hA).1
  have hstep := (show At.step a ⟨key, text, true⟩ = (if false = true then some { a with style := [] } else none) from by subst hk; simp [At.step, At.wName, At.wFile, At.wComment, At.wAppend, At.wNoline])
  have t0 : ((bs key).toList == [110, 97, 109, 101]) = false := key_not (w := At.wName) (by rw [hk]; decide)
  have t1 : ((bs key).toList == [102, 105, 108, 101]) = false := key_not (w := At.wFile) (by rw [hk]; decide)
  have t2 : ((bs key).toList == [99, 111, 109, 109, 101, 110, 116]) = true := key_is (w := At.wComment) hk
  obtain ⟨y0, y1, y2, y3, y4, y5⟩ := six hA
  have yf := blk_free hA
  replace hstep := Lib.hid hstep
  replace hA := Lib.hid hA
  replace hT := Lib.hid hT
  have ha := asText_flag
  have hW := below_new w g hg (.cells #[.string (bs key), .iface 4 (.bool true)] 44)
  have hA2 := set_new (heap_setCell_same _ _ 3 _ _ (.string ⟨#[]⟩) hA.out) (.cells #[.string (bs key), .iface 4 (.bool true)] 44)
  have hW2 := below_set w g hg 3 (.string ⟨#[]⟩) (.cells #[.string (bs key), .iface 4 (.bool true)] 44)
  replace hA2 := Lib.hid hA2
  replace hW2 := Lib.hid hW2
  clear hk hW
  go_enter Tryd.func22, Tryd.ntmps22
  go_wp2_with (go_at_call 38; refine (ha _).mono ?_; rintro e w' ⟨rfl, rfl⟩)
  go_ret
  exact ⟨_, { a with style := [] }, rfl, hA2.out, hstep.out, hW2.out⟩

set_option maxHeartbeats 4000000 in
set_option maxRecDepth 100000 in
theorem put_append_alone (a : At.Attr) (key text : List UInt8) (g : Nat) (w : World) (hA : w.heap[g]? = some (.cells (acells a) 27)) (hT : Tabs w) (hg2 : 2 ≤ g) (hl : text.length ≤ 1000000000) (hk : key = At.wAppend) :
    Calls Tryd.prog 22 #[.pointer (some ⟨g, 0, none⟩), .agg #[.string (bs key), .iface 4 (.bool true)]] w fun e w' => PutOut a ⟨key, text, true⟩ g w e w' := by
  have u1 := hg2
  have u2 := hl
  have u3 := hT
  clear u1 u2 u3
  have hg : g < w.heap.size := (Array.getElem?_eq_some_iff.1 hA).1
  have hstep := (show At.step a ⟨key, text, true⟩ = (if true = true then some { a with append := true } else none) from by subst hk; simp [At.step, At.wName, At.wFile, At.wComment, At.wAppend])
  have t0 : ((bs key).toList == [110, 97, 109, 101]) = false := key_not (w := At.wName) (by rw [hk]; decide)
  have t1 : ((bs key).toList == [102, 105, 108, 101]) = false := key_not (w := At.wFile) (by rw [hk]; decide)
  have t2 : ((bs key).toList == [99, 111, 109, 109, 101, 110, 116]) = false := key_not (w := At.wComment) (by rw [hk]; decide)
  have t3 : ((bs key).toList == [97, 112, 112, 101, 110, 100]) = true := key_is (w := At.wAppend) hk
  obtain ⟨y0, y1, y2, y3, y4, y5⟩ := six hA
  have yf := blk_free hA
  replace hstep := Lib.hid hstep
  replace hA := Lib.hid hA
  replace hT := Lib.hid hT
  have ha := fun w => as_yes 4 20 _ (.bool true) w Tryd.underlying4 (.inr rfl)
  have hW := below_new w g hg (.cells #[.string (bs key), .iface 4 (.bool true)] 44)
  have hA2 := set_new (heap_setCell_same _ _ 4 _ _ (.bool true) hA.out) (.cells #[.string (bs key), .iface 4 (.bool true)] 44)
  have hW2 := below_set w g hg 4 (.bool true) (.cells #[.string (bs key), .iface 4 (.bool true)] 44)
  replace hA2 := Lib.hid hA2
  replace hW2 := Lib.hid hW2
  clear hk hW
  go_enter Tryd.func22, Tryd.ntmps22
  go_wp2_with fail
  go_ret
  exact ⟨_, { a with append := true }, rfl, hA2.out, hstep.out, hW2.out⟩

set_option maxHeartbeats 4000000 in
set_option maxRecDepth 100000 in
theorem put_append_text (a : At.Attr) (key text : List UInt8) (g : Nat) (w : World) (hA : w.heap[g]? = some (.cells (acells a) 27)) (hT : Tabs w) (hg2 : 2 ≤ g) (hl : text.length ≤ 1000000000) (hk : key = At.wAppend) :
    Calls Tryd.prog 22 #[.pointer (some ⟨g, 0, none⟩), .agg #[.string (bs key), .iface 9 (.string (bs text))]] w fun e w' => PutOut a ⟨key, text, false⟩ g w e w' := by
  have u1 := hg2
  have u2 := hl
  have u3 := hT
  clear u1 u2 u3
  have hg : g < w.heap.size := (Array.getElem?_eq_some_iff.1 hA).1
  have hstep := (show At.step a ⟨key, text, false⟩ = (if false = true then some { a with append := false } else none) from by subst hk; simp [At.step, At.wName, At.wFile, At.wComment, At.wAppend, At.wNoline])
  have t0 : ((bs key).toList == [110, 97, 109, 101]) = false := key_not (w := At.wName) (by rw [hk]; decide)
  have t1 : ((bs key).toList == [102, 105, 108, 101]) = false := key_not (w := At.wFile) (by rw [hk]; decide)
  have t2 : ((bs key).toList == [99, 111, 109, 109, 101, 110, 116]) = false := key_not (w := At.wComment) (by rw [hk]; decide)
  have t3 : ((bs key).toList == [97, 112, 112, 101, 110, 100]) = true := key_is (w := At.wAppend) hk
  obtain ⟨y0, y1, y2, y3, y4, y5⟩ := six hA
  have yf := blk_free hA
  replace hstep := Lib.hid hstep
  replace hA := Lib.hid hA
  replace hT := Lib.hid hT
  have ha := fun w => as_no_flag (.string (bs text)) 20 w
  have hW := below_new w g hg (.cells #[.string (bs key), .iface 9 (.string (bs text))] 44)
  have hA2 := set_new (heap_setCell_same _ _ 4 _ _ (.bool false) hA.out) (.cells #[.string (bs key), .iface 9 (.string (bs text))] 44)
  have hW2 := below_set w g hg 4 (.bool false) (.cells #[.string (bs key), .iface 9 (.string (bs text))] 44)
  replace hA2 := Lib.hid hA2
  replace hW2 := Lib.hid hW2
  clear hk hW
  go_enter Tryd.func22, Tryd.ntmps22
  go_wp2_with fail
  go_ret
  exact ⟨_, { a with append := false }, rfl, hA2.out, hstep.out, hW2.out⟩

set_option maxHeartbeats 4000000 in
set_option maxRecDepth 100000 in
theorem put_noline_alone (a : At.Attr) (key text : List UInt8) (g : Nat) (w : World) (hA : w.heap[g]? = some (.cells (acells a) 27)) (hT : Tabs w) (hg2 : 2 ≤ g) (hl : text.length ≤ 1000000000) (hk : key = At.wNoline) :
    Calls Tryd.prog 22 #[.pointer (some ⟨g, 0, none⟩), .agg #[.string (bs key), .iface 4 (.bool true)]] w fun e w' => PutOut a ⟨key, text, true⟩ g w e w' := by
  have u1 := hg2
  have u2 := hl
  have u3 := hT
  clear u1 u2 u3
  have hg : g < w.heap.size := (Array.getElem?_eq_some_iff.1 hA).1
  have hstep := (show At.step a ⟨key, text, true⟩ = (if true = true then some { a with noline := true } else none) from by subst hk; simp [At.step, At.wName, At.wFile, At.wComment, At.wAppend, At.wNoline])
  have t0 : ((bs key).toList == [110, 97, 109, 101]) = false := key_not (w := At.wName) (by rw [hk]; decide)
  have t1 : ((bs key).toList == [102, 105, 108, 101]) = false := key_not (w := At.wFile) (by rw [hk]; decide)
  have t2 : ((bs key).toList == [99, 111, 109, 109, 101, 110, 116]) = false := key_not (w := At.wComment) (by rw [hk]; decide)
  have t3 : ((bs key).toList == [97, 112, 112, 101, 110, 100]) = false := key_not (w := At.wAppend) (by rw [hk]; decide)
  have t4 : ((bs key).toList == [110, 111, 108, 105, 110, 101]) = true := key_is (w := At.wNoline) hk
  obtain ⟨y0, y1, y2, y3, y4, y5⟩ := six hA
  have yf := blk_free hA
  replace hstep := Lib.hid hstep
  replace hA := Lib.hid hA
  replace hT := Lib.hid hT
  have ha := fun w => as_yes 4 20 _ (.bool true) w Tryd.underlying4 (.inr rfl)
  have hW := below_new w g hg (.cells #[.string (bs key), .iface 4 (.bool true)] 44)
  have hA2 := set_new (heap_setCell_same _ _ 5 _ _ (.bool true) hA.out) (.cells #[.string (bs key), .iface 4 (.bool true)] 44)
  have hW2 := below_set w g hg 5 (.bool true) (.cells #[.string (bs key), .iface 4 (.bool true)] 44)
  replace hA2 := Lib.hid hA2
  replace hW2 := Lib.hid hW2
  clear hk hW
  go_enter Tryd.func22, Tryd.ntmps22
  go_wp2_with fail
  go_ret
  exact ⟨_, { a with noline := true }, rfl, hA2.out, hstep.out, hW2.out⟩

set_option maxHeartbeats 4000000 in
set_option maxRecDepth 100000 in
theorem put_noline_text (a : At.Attr) (key text : List UInt8) (g : Nat) (w : World) (hA : w.heap[g]? = some (.cells (acells a) 27)) (hT : Tabs w) (hg2 : 2 ≤ g) (hl : text.length ≤ 1000000000) (hk : key = At.wNoline) :
    Calls Tryd.prog 22 #[.pointer (some ⟨g, 0, none⟩), .agg #[.string (bs key), .iface 9 (.string (bs text))]] w fun e w' => PutOut a ⟨key, text, false⟩ g w e w' := by
  have u1 := hg2
  have u2 := hl
  have u3 := hT
  clear u1 u2 u3
  have hg : g < w.heap.size := (Array.getElem?_eq_some_iff.1 hA).1
  have hstep := (show At.step a ⟨key, text, false⟩ = (if false = true then some { a with noline := false } else none) from by subst hk; simp [At.step, At.wName, At.wFile, At.wComment, At.wAppend, At.wNoline])
  have t0 : ((bs key).toList == [110, 97, 109, 101]) = false := key_not (w := At.wName) (by rw [hk]; decide)
  have t1 : ((bs key).toList == [102, 105, 108, 101]) = false := key_not (w := At.wFile) (by rw [hk]; decide)
  have t2 : ((bs key).toList == [99, 111, 109, 109, 101, 110, 116]) = false := key_not (w := At.wComment) (by rw [hk]; decide)
  have t3 : ((bs key).toList == [97, 112, 112, 101, 110, 100]) = false := key_not (w := At.wAppend) (by rw [hk]; decide)
  have t4 : ((bs key).toList == [110, 111, 108, 105, 110, 101]) = true := key_is (w := At.wNoline) hk
  obtain ⟨y0, y1, y2, y3, y4, y5⟩ := six hA
  have yf := blk_free hA
  replace hstep := Lib.hid hstep
  replace hA := Lib.hid hA
  replace hT := Lib.hid hT
  have ha := fun w => as_no_flag (.string (bs text)) 20 w
  have hW := below_new w g hg (.cells #[.string (bs key), .iface 9 (.string (bs text))] 44)
  have hA2 := set_new (heap_setCell_same _ _ 5 _ _ (.bool false) hA.out) (.cells #[.string (bs key), .iface 9 (.string (bs text))] 44)
  have hW2 := below_set w g hg 5 (.bool false) (.cells #[.string (bs key), .iface 9 (.string (bs text))] 44)
  replace hA2 := Lib.hid hA2
  replace hW2 := Lib.hid hW2
  clear hk hW
  go_enter Tryd.func22, Tryd.ntmps22
  go_wp2_with fail
  go_ret
  exact ⟨_, { a with noline := false }, rfl, hA2.out, hstep.out, hW2.out⟩

set_option maxHeartbeats 4000000 in
set_option maxRecDepth 100000 in
theorem put_none_alone (a : At.Attr) (key text : List UInt8) (g : Nat) (w : World) (hA : w.heap[g]? = some (.cells (acells a) 27)) (hT : Tabs w) (hg2 : 2 ≤ g) (hl : text.length ≤ 1000000000) (hn : key ≠ At.wName ∧ key ≠ At.wFile ∧ key ≠ At.wComment ∧ key ≠ At.wAppend ∧ key ≠ At.wNoline) :
    Calls Tryd.prog 22 #[.pointer (some ⟨g, 0, none⟩), .agg #[.string (bs key), .iface 4 (.bool true)]] w fun e w' => PutOut a ⟨key, text, true⟩ g w e w' := by
  have u1 := hg2
  have u2 := hl
  have u3 := hT
  clear u1 u2 u3
  have hg : g < w.heap.size := (Array.getElem?_eq_some_iff.1 hA).1
  have hstep := (show At.step a ⟨key, text, true⟩ = (if false = true then some a else none) from by obtain ⟨h1, h2, h3, h4, h5⟩ := hn; simp [At.step, h1, h2, h3, h4, h5])
  have t0 : ((bs key).toList == [110, 97, 109, 101]) = false := key_not (w := At.wName) hn.1
  have t1 : ((bs key).toList == [102, 105, 108, 101]) = false := key_not (w := At.wFile) hn.2.1
  have t2 : ((bs key).toList == [99, 111, 109, 109, 101, 110, 116]) = false := key_not (w := At.wComment) hn.2.2.1
  have t3 : ((bs key).toList == [97, 112, 112, 101, 110, 100]) = false := key_not (w := At.wAppend) hn.2.2.2.1
  have t4 : ((bs key).toList == [110, 111, 108, 105, 110, 101]) = false := key_not (w := At.wNoline) hn.2.2.2.2
  obtain ⟨y0, y1, y2, y3, y4, y5⟩ := six hA
  have yf := blk_free hA
  replace hstep := Lib.hid hstep
  replace hA := Lib.hid hA
  replace hT := Lib.hid hT
  have hA2 := at_new (p := .cells #[.string (bs key), .iface 4 (.bool true)] 44) hA.out
  have hW := below_new w g hg (.cells #[.string (bs key), .iface 4 (.bool true)] 44)
  replace hA2 := Lib.hid hA2
  clear hn
  go_enter Tryd.func22, Tryd.ntmps22
  go_wp2_with fail
  go_ret
  exact ⟨_, a, rfl, hA2.out, hstep.out, hW⟩

set_option maxHeartbeats 4000000 in
set_option maxRecDepth 100000 in
theorem put_none_text (a : At.Attr) (key text : List UInt8) (g : Nat) (w : World) (hA : w.heap[g]? = some (.cells (acells a) 27)) (hT : Tabs w) (hg2 : 2 ≤ g) (hl : text.length ≤ 1000000000) (hn : key ≠ At.wName ∧ key ≠ At.wFile ∧ key ≠ At.wComment ∧ key ≠ At.wAppend ∧ key ≠ At.wNoline) :
    Calls Tryd.prog 22 #[.pointer (some ⟨g, 0, none⟩), .agg #[.string (bs key), .iface 9 (.string (bs text))]] w fun e w' => PutOut a ⟨key, text, false⟩ g w e w' := by
  have u1 := hg2
  have u2 := hl
  have u3 := hT
  clear u1 u2 u3
  have hg : g < w.heap.size := (Array.getElem?_eq_some_iff.1 hA).1
  have hstep := (show At.step a ⟨key, text, false⟩ = (if false = true then some a else none) from by obtain ⟨h1, h2, h3, h4, h5⟩ := hn; simp [At.step, h1, h2, h3, h4, h5])
  have t0 : ((bs key).toList == [110, 97, 109, 101]) = false := key_not (w := At.wName) hn.1
  have t1 : ((bs key).toList == [102, 105, 108, 101]) = false := key_not (w := At.wFile) hn.2.1
  have t2 : ((bs key).toList == [99, 111, 109, 109, 101, 110, 116]) = false := key_not (w := At.wComment) hn.2.2.1
  have t3 : ((bs key).toList == [97, 112, 112, 101, 110, 100]) = false := key_not (w := At.wAppend) hn.2.2.2.1
  have t4 : ((bs key).toList == [110, 111, 108, 105, 110, 101]) = false := key_not (w := At.wNoline) hn.2.2.2.2
  obtain ⟨y0, y1, y2, y3, y4, y5⟩ := six hA
  have yf := blk_free hA
  replace hstep := Lib.hid hstep
  replace hA := Lib.hid hA
  replace hT := Lib.hid hT
  have hA2 := at_new (p := .cells #[.string (bs key), .iface 9 (.string (bs text))] 44) hA.out
  have hW := below_new w g hg (.cells #[.string (bs key), .iface 9 (.string (bs text))] 44)
  replace hA2 := Lib.hid hA2
  clear hn
  go_enter Tryd.func22, Tryd.ntmps22
  go_wp2_with fail
  go_ret
  exact ⟨_, a, rfl, hA2.out, hstep.out, hW⟩

/-- whatever the pair is -/
theorem put_any (a : At.Attr) (p : At.Pr) (g : Nat) (w : World) (hA : w.heap[g]? = some (.cells (acells a) 27)) (hT : Tabs w) (hg2 : 2 ≤ g) (hl : p.text.length ≤ 1000000000) :
    Calls Tryd.prog 22 #[.pointer (some ⟨g, 0, none⟩), .agg #[.string (bs p.key), av p]] w fun e w' => PutOut a p g w e w' := by
  obtain ⟨key, text, alone⟩ := p
  by_cases h0 : key = At.wName
  · cases alone with
    | true => exact put_name_alone a key text g w hA hT hg2 hl h0
    | false => exact put_name_text a key text g w hA hT hg2 hl h0
  by_cases h1 : key = At.wFile
  · cases alone with
    | true => exact put_file_alone a key text g w hA hT hg2 hl h1
    | false => exact put_file_text a key text g w hA hT hg2 hl h1
  by_cases h2 : key = At.wComment
  · cases alone with
    | true => exact put_style_alone a key text g w hA hT hg2 hl h2
    | false => exact put_style_text a key text g w hA hT hg2 hl h2
  by_cases h3 : key = At.wAppend
  · cases alone with
    | true => exact put_append_alone a key text g w hA hT hg2 hl h3
    | false => exact put_append_text a key text g w hA hT hg2 hl h3
  by_cases h4 : key = At.wNoline
  · cases alone with
    | true => exact put_noline_alone a key text g w hA hT hg2 hl h4
    | false => exact put_noline_text a key text g w hA hT hg2 hl h4
  cases alone with
  | true => exact put_none_alone a key text g w hA hT hg2 hl ⟨h0, h1, h2, h3, h4⟩
  | false => exact put_none_text a key text g w hA hT hg2 hl ⟨h0, h1, h2, h3, h4⟩
end Go.Proofs.YtfppfaliepkhgaaDoor
