/- The law's own comparison of the program with the document's answer; the closed runs. -/
import Derived.Test.YtfhpijeadchnnaaEsProg
namespace Go.Proofs.Ytfhpijeadchnnaa
open Go.RowKit

set_option maxHeartbeats 4000000 in
theorem same_any (l : List UInt8) (at_ : Int) (hs : l.length ≤ 1000000000) (w : World) (hT : EsT w) :
    Calls Try.prog 7 #[.string (bs l), .int .i64 at_] w fun e w' => e = .returned (.bool true) ∧ Below w.heap.size w w' := by
  obtain ⟨x, n, o, hV⟩ : ∃ (x n : Int) (o : Bool), nextV l at_.toNat = .tuple #[.int .i32 x, .int .i64 n, .bool o] := ⟨_, _, _, rfl⟩
  have q1 := fun w hT => pnext_any l at_ hs w hT
  have q2 := fun w => rnext_any l at_ (by omega) w
  rw [hV] at q1 q2
  clear hV
  go_enter Try.func7, Try.ntmps7
  go_wp2_with fail
  refine (q1 _ hT).mono ?_
  rintro e w1 ⟨rfl, hb1⟩
  go_wp2_with fail
  refine (q2 _).mono ?_
  rintro e w2 ⟨rfl, hb2⟩
  replace hb2 := ext_trans hb1 hb2
  clear q1 q2 hb1
  have hT2 := Lib.hid (est_ext hT hb2)
  go_wp2_with fail
  refine (pplain_any l _ hs hT2.out).mono ?_
  rintro e w3 ⟨rfl, hb3⟩
  replace hb3 := ext_trans hb2 hb3
  clear hb2
  go_wp2_with fail
  refine (rplain_any l _ hs).mono ?_
  rintro e w4 ⟨rfl, hb4⟩
  replace hb4 := ext_trans hb3 hb4
  clear hb3
  have hT4 := Lib.hid (est_ext hT hb4)
  go_wp2_with fail
  refine (pquote_any l _ hs hT4.out).mono ?_
  rintro e w5 ⟨rfl, hb5⟩
  replace hb5 := ext_trans hb4 hb5
  clear hb4
  go_wp2_with fail
  refine (rquote_any l _ (by omega)).mono ?_
  rintro e w6 ⟨rfl, rfl⟩
  have hT5 := Lib.hid (est_ext hT hb5)
  go_wp2_with fail
  refine (ppage_any l _ hs hT5.out).mono ?_
  rintro e w7 ⟨rfl, hb7⟩
  replace hb7 := ext_trans hb5 hb7
  clear hb5
  go_wp2_with fail
  refine (rpage_any l _ (by omega)).mono ?_
  rintro e w8 ⟨rfl, rfl⟩
  go_wp2
  go_ret
  exact ⟨rfl, hb7⟩

theorem next_at (l : List UInt8) (s : ByteArray) (a : Int) (k : Nat) (v : Value) (hs : bs l = s) (hk : a.toNat = k) (hv : nextV l k = v) (hl : l.length ≤ 1000000000) (w : World) (hT : EsT w) :
    Calls Try.prog 12 #[.string s, .int .i64 a] w fun e w' => e = .returned v ∧ Below w.heap.size w w' := by
  subst hs hk hv; exact pnext_any l a hl w hT
theorem plain_at (l m : List UInt8) (s t : ByteArray) (hs : bs l = s) (h : Ru.enc (Es.plain l) = m) (ht : bs m = t) (hl : l.length ≤ 1000000000) (w : World) (hT : EsT w) :
    Calls Try.prog 10 #[.string s] w fun e w' => e = .returned (.string t) ∧ Below w.heap.size w w' := by
  subst hs h ht; exact pplain_any l w hl hT
theorem quote_at (l m : List UInt8) (s t : ByteArray) (hs : bs l = s) (h : Es.quote l = m) (ht : bs m = t) (hl : l.length ≤ 1000000000) (w : World) (hT : EsT w) :
    Calls Try.prog 11 #[.string s] w fun e w' => e = .returned (.string t) ∧ Below w.heap.size w w' := by
  subst hs h ht; exact pquote_any l w hl hT
theorem page_at (l m : List UInt8) (s t : ByteArray) (hs : bs l = s) (h : Es.page l = m) (ht : bs m = t) (hl : l.length ≤ 1000000000) (w : World) (hT : EsT w) :
    Calls Try.prog 9 #[.string s] w fun e w' => e = .returned (.string t) ∧ Below w.heap.size w w' := by
  subst hs h ht; exact ppage_any l w hl hT

set_option maxHeartbeats 4000000 in
set_option maxRecDepth 100000 in
theorem known_any (w : World) (hT : EsT w) :
    Calls Try.prog 8 #[] w fun e w' => e = .returned (.bool true) ∧ Below w.heap.size w w' := by
  have q1 := next_at [97, 92, 42, 98] ⟨#[97, 92, 42, 98]⟩ 1 1 (.tuple #[.int .i32 42, .int .i64 3, .bool true]) rfl rfl (by kernel_rfl) (by decide)
  have q2 := next_at [92, 97] ⟨#[92, 97]⟩ 0 0 (.tuple #[.int .i32 92, .int .i64 1, .bool false]) rfl rfl (by kernel_rfl) (by decide)
  have q3 := next_at [255] ⟨#[255]⟩ 0 0 (.tuple #[.int .i32 65533, .int .i64 1, .bool false]) rfl rfl (by kernel_rfl) (by decide)
  have q4 := next_at [97] ⟨#[97]⟩ 7 7 (.tuple #[.int .i32 0, .int .i64 1, .bool false]) rfl rfl (by kernel_rfl) (by decide)
  have q5 := plain_at [92, 42, 92, 97] [42, 92, 97] ⟨#[92, 42, 92, 97]⟩ ⟨#[42, 92, 97]⟩ rfl (by kernel_rfl) rfl (by decide)
  have q6 := quote_at [97, 42] [97, 92, 42] ⟨#[97, 42]⟩ ⟨#[97, 92, 42]⟩ rfl (by kernel_rfl) rfl (by decide)
  have q7 := page_at [60, 97, 32, 38, 32, 34, 98, 34, 62] [38, 108, 116, 59, 97, 32, 38, 97, 109, 112, 59, 32, 38, 113, 117, 111, 116, 59, 98, 38, 113, 117, 111, 116, 59, 38, 103, 116, 59] ⟨#[60, 97, 32, 38, 32, 34, 98, 34, 62]⟩ ⟨#[38, 108, 116, 59, 97, 32, 38, 97, 109, 112, 59, 32, 38, 113, 117, 111, 116, 59, 98, 38, 113, 117, 111, 116, 59, 38, 103, 116, 59]⟩ rfl (by kernel_rfl) rfl (by decide)
  replace hT := Lib.hid hT
  go_enter Try.func8, Try.ntmps8
  go_wp2_with fail
  refine (q1 _ hT.out).mono ?_
  rintro e w1 ⟨rfl, hb1⟩
  have hT2 := Lib.hid (est_ext hT.out hb1)
  go_wp2_with fail
  refine (q2 _ hT2.out).mono ?_
  rintro e w2 ⟨rfl, hb2⟩
  replace hb2 := ext_trans hb1 hb2
  clear hb1
  have hT3 := Lib.hid (est_ext hT.out hb2)
  go_wp2_with fail
  refine (q3 _ hT3.out).mono ?_
  rintro e w3 ⟨rfl, hb3⟩
  replace hb3 := ext_trans hb2 hb3
  clear hb2
  have hT4 := Lib.hid (est_ext hT.out hb3)
  go_wp2_with fail
  refine (q4 _ hT4.out).mono ?_
  rintro e w4 ⟨rfl, hb4⟩
  replace hb4 := ext_trans hb3 hb4
  clear hb3 q1 q2 q3 q4
  have hT5 := Lib.hid (est_ext hT.out hb4)
  go_wp2_with fail
  refine (q5 _ hT5.out).mono ?_
  rintro e w5 ⟨rfl, hb5⟩
  replace hb5 := ext_trans hb4 hb5
  clear hb4
  have hT6 := Lib.hid (est_ext hT.out hb5)
  go_wp2_with fail
  refine (q6 _ hT6.out).mono ?_
  rintro e w6 ⟨rfl, hb6⟩
  replace hb6 := ext_trans hb5 hb6
  clear hb5
  have hT7 := Lib.hid (est_ext hT.out hb6)
  go_wp2_with fail
  refine (q7 _ hT7.out).mono ?_
  rintro e w7 ⟨rfl, hb7⟩
  replace hb7 := ext_trans hb6 hb7
  clear hb6
  go_wp2
  go_ret
  exact ⟨rfl, hb7⟩
end Go.Proofs.Ytfhpijeadchnnaa
