/- Law 11's own helps: same: the program's links held against the document's; the closed runs. -/
import Derived.Test.YtjkmhcolnidflaaLkProg
namespace Go.Proofs.Ytjkmhcolnidflaa
open Go.RowKit

set_option maxHeartbeats 8000000 in
set_option maxRecDepth 100000 in
theorem lksame_any (l : List UInt8) (at_ : Int) (hs : l.length ≤ 1000000000) (w : World) :
    Calls Try.prog 8 #[.string (bs l), .int .i64 at_] w fun e w' => e = .returned (.bool true) ∧ Below w.heap.size w w' := by
  obtain ⟨x1, n1, o1, hV1⟩ := spanV_three (Lk.auto l at_)
  obtain ⟨n2, o2, hV2⟩ := placeV_two (Lk.close l at_)
  obtain ⟨x3, n3, o3, hV3⟩ := spanV_three (Lk.dest l at_)
  have p1 := fun w => pauto_any l at_ hs w
  have q1 := fun w => rauto_any l at_ (by omega) w
  have p2 := fun w => pclose_any l at_ hs w
  have q2 := fun w => rclose_any l at_ (by omega) w
  have p3 := fun w => pdest_any l at_ hs w
  have q3 := fun w => rdest_any l at_ hs w
  have p4 := fun w => psafe_any l hs w
  have q4 := fun w => rsafe_any l (by omega) w
  rw [hV1] at p1 q1
  rw [hV2] at p2 q2
  rw [hV3] at p3 q3
  obtain ⟨sf, hsf⟩ : ∃ sf, sf = Lk.safe l := ⟨_, rfl⟩
  rw [← hsf] at p4 q4
  clear hV1 hV2 hV3 hsf
  go_enter Try.func8, Try.ntmps8
  go_wp2_with fail
  refine (p1 _).mono ?_
  rintro e w1 ⟨rfl, hb1⟩
  go_wp2_with fail
  refine (q1 _).mono ?_
  rintro e w2 ⟨rfl, hb2⟩
  replace hb2 := ext_trans hb1 hb2
  clear hb1
  go_wp2_with fail
  refine (p2 _).mono ?_
  rintro e w3 ⟨rfl, hb3⟩
  replace hb3 := ext_trans hb2 hb3
  clear hb2
  go_wp2_with fail
  refine (q2 _).mono ?_
  rintro e w4 ⟨rfl, hb4⟩
  replace hb4 := ext_trans hb3 hb4
  clear hb3
  go_wp2_with fail
  refine (p3 _).mono ?_
  rintro e w5 ⟨rfl, hb5⟩
  replace hb5 := ext_trans hb4 hb5
  clear hb4
  go_wp2_with fail
  refine (q3 _).mono ?_
  rintro e w6 ⟨rfl, hb6⟩
  replace hb6 := Lib.hid (ext_trans hb5 hb6)
  clear hb5 p1 q1 p2 q2 p3 q3
  go_wp2_with fail
  refine (p4 _).mono ?_
  rintro e w7 ⟨rfl, hb7⟩
  replace hb7 := Lib.hid (ext_trans hb6.out hb7)
  go_wp2_with fail
  refine (q4 _).mono ?_
  rintro e w8 ⟨rfl, hb8⟩
  replace hb8 := Lib.hid (ext_trans hb7.out hb8)
  go_wp2_with fail
  go_ret
  exact ⟨rfl, hb8.out⟩

theorem auto_at (l : List UInt8) (s : ByteArray) (a : Int) (o : Option (List UInt8 × Nat)) (v : Value) (hs : bs l = s) (h : Lk.auto l a = o) (hv : spanV o = v) (hl : l.length ≤ 1000000000) (w : World) :
    Calls Try.prog 16 #[.string s, .int .i64 a] w fun e w' => e = .returned v ∧ Below w.heap.size w w' := by
  subst hs h hv; exact pauto_any l a hl w
theorem close_at (l : List UInt8) (s : ByteArray) (a : Int) (o : Option Nat) (v : Value) (hs : bs l = s) (h : Lk.close l a = o) (hv : placeV o = v) (hl : l.length ≤ 1000000000) (w : World) :
    Calls Try.prog 11 #[.string s, .int .i64 a] w fun e w' => e = .returned v ∧ Below w.heap.size w w' := by
  subst hs h hv; exact pclose_any l a hl w
theorem dest_at (l : List UInt8) (s : ByteArray) (a : Int) (o : Option (List UInt8 × Nat)) (v : Value) (hs : bs l = s) (h : Lk.dest l a = o) (hv : spanV o = v) (hl : l.length ≤ 1000000000) (w : World) :
    Calls Try.prog 15 #[.string s, .int .i64 a] w fun e w' => e = .returned v ∧ Below w.heap.size w w' := by
  subst hs h hv; exact pdest_any l a hl w
theorem safe_at (l : List UInt8) (s : ByteArray) (b : Bool) (hs : bs l = s) (h : Lk.safe l = b) (hl : l.length ≤ 1000000000) (w : World) :
    Calls Try.prog 20 #[.string s] w fun e w' => e = .returned (.bool b) ∧ Below w.heap.size w w' := by
  subst hs h; exact psafe_any l hl w

set_option maxHeartbeats 8000000 in
set_option maxRecDepth 100000 in
theorem lkknown_any (w : World) :
    Calls Try.prog 9 #[] w fun e w' => e = .returned (.bool true) ∧ Below w.heap.size w w' := by
  have a1 := auto_at [60, 104, 116, 116, 112, 58, 47, 47, 120, 62] ⟨#[60, 104, 116, 116, 112, 58, 47, 47, 120, 62]⟩ 0 (some ([104, 116, 116, 112, 58, 47, 47, 120], 10)) (.tuple #[.string ⟨#[104, 116, 116, 112, 58, 47, 47, 120]⟩, .int .i64 10, .bool true]) rfl (by kernel_rfl) rfl (by decide)
  have a2 := auto_at [60, 97, 62] ⟨#[60, 97, 62]⟩ 0 none (.tuple #[.string ⟨#[]⟩, .int .i64 0, .bool false]) rfl (by kernel_rfl) rfl (by decide)
  have c1 := close_at [91, 97, 91, 98, 93, 92, 93, 96, 93, 96, 93] ⟨#[91, 97, 91, 98, 93, 92, 93, 96, 93, 96, 93]⟩ 0 (some 10) (.tuple #[.int .i64 10, .bool true]) rfl (by kernel_rfl) rfl (by decide)
  have c2 := close_at [91, 97] ⟨#[91, 97]⟩ 0 none (.tuple #[.int .i64 0, .bool false]) rfl (by kernel_rfl) rfl (by decide)
  have d1 := dest_at [40, 97, 92, 41, 98, 41, 32, 99] ⟨#[40, 97, 92, 41, 98, 41, 32, 99]⟩ 0 (some ([97, 41, 98], 6)) (.tuple #[.string ⟨#[97, 41, 98]⟩, .int .i64 6, .bool true]) rfl (by kernel_rfl) rfl (by decide)
  have d2 := dest_at [40, 97, 32, 98, 41] ⟨#[40, 97, 32, 98, 41]⟩ 0 none (.tuple #[.string ⟨#[]⟩, .int .i64 0, .bool false]) rfl (by kernel_rfl) rfl (by decide)
  have s1 := safe_at [104, 116, 116, 112, 58, 47, 47, 120] ⟨#[104, 116, 116, 112, 58, 47, 47, 120]⟩ true rfl (by kernel_rfl) (by decide)
  have s2 := safe_at [74, 97, 118, 97, 83, 99, 114, 105, 112, 116, 58, 120] ⟨#[74, 97, 118, 97, 83, 99, 114, 105, 112, 116, 58, 120]⟩ false rfl (by kernel_rfl) (by decide)
  have s3 := safe_at [35, 97] ⟨#[35, 97]⟩ false rfl (by kernel_rfl) (by decide)
  have s4 := safe_at [106, 97, 118, 97, 115, 99, 114, 105, 112, 116] ⟨#[106, 97, 118, 97, 115, 99, 114, 105, 112, 116]⟩ true rfl (by kernel_rfl) (by decide)
  have s5 := safe_at [32, 100, 97, 9, 116, 97, 58, 120] ⟨#[32, 100, 97, 9, 116, 97, 58, 120]⟩ false rfl (by kernel_rfl) (by decide)
  go_enter Try.func9, Try.ntmps9
  go_wp2_with fail
  refine (a1 _).mono ?_
  rintro e w1 ⟨rfl, hb1⟩
  go_wp2_with fail
  refine (a2 _).mono ?_
  rintro e w2 ⟨rfl, hb2⟩
  replace hb2 := ext_trans hb1 hb2
  clear hb1 a1 a2
  go_wp2_with fail
  refine (c1 _).mono ?_
  rintro e w3 ⟨rfl, hb3⟩
  replace hb3 := ext_trans hb2 hb3
  clear hb2
  go_wp2_with fail
  refine (c2 _).mono ?_
  rintro e w4 ⟨rfl, hb4⟩
  replace hb4 := ext_trans hb3 hb4
  clear hb3 c1 c2
  go_wp2_with fail
  refine (d1 _).mono ?_
  rintro e w5 ⟨rfl, hb5⟩
  replace hb5 := ext_trans hb4 hb5
  clear hb4
  go_wp2_with fail
  refine (d2 _).mono ?_
  rintro e w6 ⟨rfl, hb6⟩
  replace hb6 := ext_trans hb5 hb6
  clear hb5 d1 d2
  go_wp2_with fail
  refine (s1 _).mono ?_
  rintro e w7 ⟨rfl, hb7⟩
  replace hb7 := ext_trans hb6 hb7
  clear hb6
  go_wp2_with fail
  refine (s2 _).mono ?_
  rintro e w8 ⟨rfl, hb8⟩
  replace hb8 := ext_trans hb7 hb8
  clear hb7
  go_wp2_with fail
  refine (s3 _).mono ?_
  rintro e w9 ⟨rfl, hb9⟩
  replace hb9 := ext_trans hb8 hb9
  clear hb8
  go_wp2_with fail
  refine (s4 _).mono ?_
  rintro e w10 ⟨rfl, hb10⟩
  replace hb10 := ext_trans hb9 hb10
  clear hb9
  go_wp2_with fail
  refine (s5 _).mono ?_
  rintro e w11 ⟨rfl, hb11⟩
  replace hb11 := ext_trans hb10 hb11
  clear hb10
  go_wp2_with fail
  go_ret
  exact ⟨rfl, hb11⟩
end Go.Proofs.Ytjkmhcolnidflaa
