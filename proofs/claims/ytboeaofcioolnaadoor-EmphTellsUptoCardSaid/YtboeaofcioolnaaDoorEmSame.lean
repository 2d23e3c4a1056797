/- Law 10's own helps: kinds: the program's judging held against the document's. -/
import Derived.Test.YtboeaofcioolnaaDoorEmProg
import Derived.Test.YtboeaofcioolnaaDoorEmKind
import Derived.Test.YtboeaofcioolnaaDoorEmMatch
namespace Go.Proofs.YtboeaofcioolnaaDoor
open Go.RowKit

set_option maxHeartbeats 4000000 in
set_option maxRecDepth 100000 in
theorem kinds_any (l : List UInt8) (at_ : Int) (hs : l.length ≤ 1000000000000) (w : World) (hT : Tabs w) :
    Calls Tryd.prog 10 #[.string (bs l), .int .i64 at_] w fun e w' => e = .returned (.bool true) ∧ Below w.heap.size w w' := by
  obtain ⟨ch, n, o, c, en, ok, hV⟩ := kindV_form (Em.kind l at_)
  have p := pkind_any l at_ hs w hT
  have q := fun w => rkind_any l at_ hs w
  rw [hV] at p q
  clear hV
  go_enter Tryd.func10, Tryd.ntmps10
  go_wp2_with fail
  refine p.mono ?_
  rintro e w1 ⟨rfl, hb1⟩
  clear p
  go_wp2_with fail
  refine (q _).mono ?_
  rintro e w2 ⟨rfl, hb2⟩
  clear q
  have hz1 := hb1.size
  have hz2 := hb2.size
  go_upto_region 3 with fail
  generalize hw3 : World.alloc w2 _ = w3
  obtain ⟨z0, z1, z2, z3⟩ := four (w1 := w3) (g := w2.heap.size) (by rw [← hw3]; exact heap_alloc_new _ _)
  have hb3 := Lib.hid (show Below (w1.alloc _).heap.size (w1.alloc _) w3 from by rw [← hw3]; exact hb2.alloc hb2.size _)
  obtain ⟨k0, k1, k2, k3, _⟩ := blk_open hb3.out
  have hb4 := Lib.hid (show Below w.heap.size w w3 from (hb1.alloc hz1 _).trans (hb3.out.mono (by simp; omega)))
  clear hw3 hb2 hb3 hb1
  have s1 : ((ch.toNat : Int) == (ch.toNat : Int)) = true := beq_self_eq_true _
  have s2 : (n == n) = true := beq_self_eq_true _
  have s3 : ((en : Int) == (en : Int)) = true := beq_self_eq_true _
  have s4 : (o == o) = true := beq_self_eq_true _
  have s5 : (c == c) = true := beq_self_eq_true _
  have s6 : (ok == ok) = true := beq_self_eq_true _
  go_wp2_with fail
  go_ret
  exact ⟨rfl, hb4.out⟩

/-! ### runs out of bytes -/
/-- a run by a byte -/
def runOf (b : UInt8) : Em.R := ⟨if b.toNat % 2 = 0 then 42 else 95, ((b.toNat / 2 % 4 : Nat) : Int), b.toNat / 8 % 2 == 1, b.toNat / 16 % 2 == 1⟩
def runsOf (ks : List UInt8) : List Em.R := (ks.take 30).map runOf
theorem runsOf_len (ks : List UInt8) : (runsOf ks).length ≤ 30 := by unfold runsOf; rw [List.length_map, List.length_take]; omega
theorem runsOf_step {ks : List UInt8} {k : Nat} (h : k < ks.length) : (ks.take (k + 1)).map runOf = (ks.take k).map runOf ++ [runOf ks[k]] := by
  rw [List.take_succ_eq_append_getElem h, List.map_append]; rfl
theorem acells_snoc (l : List Em.R) (x : Em.R) : acells (l ++ [x]) = acells l ++ acell x := by simp [acells]
theorem prunEI : EI Tryd.prog 24 29 4 24 := EI.mk' Tryd.underlying24 (z := .agg #[.int .u8 0, .int .i64 0, .bool false, .bool false]) (by kernel_rfl) rfl (by omega)
set_option maxHeartbeats 4000000 in
set_option maxRecDepth 100000 in
theorem runs_any (ks : List UInt8) (A : Option Addr) (c : Nat) (w : World) (h : Row w w.heap.size 1 A ks.length (bcells ks)) (_hk : ks.length ≤ 9223372036854775807) :
    Calls Tryd.prog 9 #[.slice A ks.length c] w fun e w' => (∃ v, e = .returned v ∧ w'.ownsRow w.heap.size 29 4 v (runsOf ks).length (acells (runsOf ks))) ∧ Below w.heap.size w w' := by
  have hR := Lib.hid h
  clear h
  go_enter Tryd.func9, Tryd.ntmps9
  go_wp2_with fail
  go_loopw [3, 4] (fun v i wr => ∃ k : Nat, k ≤ ks.length ∧ k ≤ 30 ∧ i = .int .i64 k ∧ wr.ownsRow w.heap.size 29 4 v k (acells ((ks.take k).map runOf)) ∧ Below w.heap.size w wr) (fun _ i _ => 30 - (intOf i).toNat)
  case atStart => exact ⟨0, Nat.zero_le _, Nat.zero_le _, rfl, World.ownsRow_nil _ _ _ _, Below.refl _ _⟩
  case round =>
    obtain ⟨k, hk1, hk2, rfl, hown, hb⟩ := hrel
    by_cases hin : k < ks.length ∧ k < 30
    · obtain ⟨h1, h2⟩ := hin
      obtain ⟨b, o, rfl, hbb, hc⟩ := hR.out.at1 (k := k) h1
      have hx : wr.cell? ⟨b, o + k, none⟩ = some (.int .u8 (ks[k].toNat : Int)) := (hb.cell hbb).trans (by rw [hc k h1]; simp [bcells, bv])
      have hst := Lib.hid (runsOf_step h1)
      have hz := hb.size
      clear hc
      generalize ks[k] = y at *
      generalize (ks.take k).map runOf = H at *
      have hy8 := y.toNat_lt
      have f1 : bits .and .u8 (y.toNat : Int) 1 = ((y.toNat % 2 : Nat) : Int) := by
        have := u8_and_nat y.toNat 1 hy8 (by omega)
        rw [show ((1 : Nat) : Int) = 1 from rfl] at this
        rw [this, show y.toNat &&& 1 = y.toNat % 2 from Nat.and_two_pow_sub_one_eq_mod y.toNat 1]
      have f2 : bits .and .u8 ((y.toNat : Int) / 2) 3 = ((y.toNat / 2 % 4 : Nat) : Int) := by
        have := u8_and_nat (y.toNat / 2) 3 (by omega) (by omega)
        rw [show ((3 : Nat) : Int) = 3 from rfl, show ((y.toNat / 2 : Nat) : Int) = (y.toNat : Int) / 2 from by omega] at this
        rw [this, show y.toNat / 2 &&& 3 = y.toNat / 2 % 4 from Nat.and_two_pow_sub_one_eq_mod _ 2]
      have f3 : bits .and .u8 ((y.toNat : Int) / 8) 1 = ((y.toNat / 8 % 2 : Nat) : Int) := by
        have := u8_and_nat (y.toNat / 8) 1 (by omega) (by omega)
        rw [show ((1 : Nat) : Int) = 1 from rfl, show ((y.toNat / 8 : Nat) : Int) = (y.toNat : Int) / 8 from by omega] at this
        rw [this, show y.toNat / 8 &&& 1 = y.toNat / 8 % 2 from Nat.and_two_pow_sub_one_eq_mod _ 1]
      have f4 : bits .and .u8 ((y.toNat : Int) / 16) 1 = ((y.toNat / 16 % 2 : Nat) : Int) := by
        have := u8_and_nat (y.toNat / 16) 1 (by omega) (by omega)
        rw [show ((1 : Nat) : Int) = 1 from rfl, show ((y.toNat / 16 : Nat) : Int) = (y.toNat : Int) / 16 from by omega] at this
        rw [this, show y.toNat / 16 &&& 1 = y.toNat / 16 % 2 from Nat.and_two_pow_sub_one_eq_mod _ 1]
      have hch : ∀ wz : World, (Instr.index 9 (.string ⟨#[42, 95]⟩) (.int .u8 ((y.toNat % 2 : Nat) : Int))).run Tryd.prog wz = .ok (.int .u8 ((runOf y).ch.toNat : Int)) wz := by
        intro wz
        unfold runOf
        rw [show (⟨#[42, 95]⟩ : ByteArray) = bs [42, 95] from rfl]
        rcases Nat.mod_two_eq_zero_or_one y.toNat with g | g
        · rw [g]
          simp only [if_pos]
          rw [run_index_string wz 9 (bs [42, 95]) .u8 ((0 : Nat) : Int) Tryd.underlying9, dif_pos ⟨by decide, by decide⟩]
          rfl
        · rw [g]
          simp only [if_neg (show ¬ (1 = 0) by decide)]
          rw [run_index_string wz 9 (bs [42, 95]) .u8 ((1 : Nat) : Int) Tryd.underlying9, dif_pos ⟨by decide, by decide⟩]
          rfl
      have hn : (runOf y).n = ((y.toNat / 2 % 4 : Nat) : Int) := rfl
      have ho : (runOf y).o = (((y.toNat / 8 % 2 : Nat) : Int) == 1) := by
        unfold runOf; simp only; rw [Bool.eq_iff_iff]; simp only [beq_iff_eq]; omega
      have hcc : (runOf y).c = (((y.toNat / 16 % 2 : Nat) : Int) == 1) := by
        unfold runOf; simp only; rw [Bool.eq_iff_iff]; simp only [beq_iff_eq]; omega
      have w4 : wrap64 ((y.toNat / 2 % 4 : Nat) : Int) = ((y.toNat / 2 % 4 : Nat) : Int) := by rw [wrap64]; omega
      obtain ⟨m2, hm2⟩ : ∃ m : Nat, m = y.toNat / 2 % 4 := ⟨_, rfl⟩
      obtain ⟨m8, hm8⟩ : ∃ m : Nat, m = y.toNat / 8 % 2 := ⟨_, rfl⟩
      obtain ⟨m16, hm16⟩ : ∃ m : Nat, m = y.toNat / 16 % 2 := ⟨_, rfl⟩
      obtain ⟨m1, hm1⟩ : ∃ m : Nat, m = y.toNat % 2 := ⟨_, rfl⟩
      rw [← hm1] at f1 hch
      rw [← hm2] at f2 hn w4
      rw [← hm8] at f3 ho
      rw [← hm16] at f4 hcc
      clear hm1 hm2 hm8 hm16
      obtain ⟨r, hr⟩ : ∃ r, r = runOf y := ⟨_, rfl⟩
      rw [← hr] at hch hn ho hcc hst
      clear hr
      replace hn := Lib.hid hn
      replace ho := Lib.hid ho
      replace hcc := Lib.hid hcc
      go_wp2_with (at_builtin; refine wpList_app_new rfl (.tmp 20) (.tmp 37) rfl prunEI rfl hown rfl (by simp) rfl (by intro u hu; simp at hu; rcases hu with rfl | rfl | rfl | rfl <;> rfl) (by omega) (by omega) hz ?_; intro v2 w2 hown2 hg2 hb3)
      go_roundw
      case rel => exact ⟨k + 1, h1, h2, by go_num, by rw [hst.out, acells_snoc]; simpa [acell, hn.out, ho.out, hcc.out] using hown2, hb.trans hb3⟩
      case measure => simp [intOf]; omega
    · have he : Hid ((ks.take k).map runOf = runsOf ks) := Lib.hid (by
        unfold runsOf
        congr 1
        rcases Nat.lt_or_ge k ks.length with g | g
        · have : k = 30 := by omega
          rw [this]
        · rw [List.take_of_length_le (by omega), List.take_of_length_le (by omega)])
      have hl : Hid (k = (runsOf ks).length) := Lib.hid (by rw [← he.out, List.length_map, List.length_take]; omega)
      rw [he.out] at hown
      have hown2 : wr.ownsRow w.heap.size 29 4 u3 (runsOf ks).length (acells (runsOf ks)) := by rw [← hl.out]; exact hown
      replace hown2 := Lib.hid hown2
      clear hown
      have hcase : ¬ k < ks.length ∨ (k < ks.length ∧ ¬ k < 30) := by omega
      rcases hcase with g | ⟨g, g2⟩
      all_goals
        go_wp2_with fail
        go_ret
        exact ⟨⟨_, rfl, hown2.out⟩, hb⟩
end Go.Proofs.YtboeaofcioolnaaDoor
