/- selvedgelaw11.made as a function: which text it makes of a row of bytes. -/
import Derived.Test.YtjkmhcolnidflaaLkProg
namespace Go.Proofs.Ytjkmhcolnidflaa
open Go.RowKit

/-- what is made of one byte -/
def pc (b : UInt8) : List UInt8 :=
  if b.toNat % 16 = 0 then [91] else
  if b.toNat % 16 = 1 then [93] else
  if b.toNat % 16 = 2 then [40] else
  if b.toNat % 16 = 3 then [41] else
  if b.toNat % 16 = 4 then [60, 97, 98, 58] else
  if b.toNat % 16 = 5 then [62] else
  if b.toNat % 16 = 6 then [96] else
  if b.toNat % 16 = 7 then [92] else
  if b.toNat % 16 = 8 then [97] else
  if b.toNat % 16 = 9 then [32] else
  if b.toNat % 16 = 10 then [106, 97, 118, 97, 115, 99, 114, 105, 112, 116, 58] else
  if b.toNat % 16 = 11 then [35] else
  if b.toNat % 16 = 12 then [96, 96] else
  if b.toNat % 16 = 13 then [60] else
  if b.toNat % 16 = 14 then [100, 97, 116, 97, 58] else
  [227, 128, 128]
theorem pc_ways (b : UInt8) : (bits .and .u8 (b.toNat : Int) 15 = 0 ∧ pc b = [91]) ∨
    (bits .and .u8 (b.toNat : Int) 15 = 1 ∧ pc b = [93]) ∨
    (bits .and .u8 (b.toNat : Int) 15 = 2 ∧ pc b = [40]) ∨
    (bits .and .u8 (b.toNat : Int) 15 = 3 ∧ pc b = [41]) ∨
    (bits .and .u8 (b.toNat : Int) 15 = 4 ∧ pc b = [60, 97, 98, 58]) ∨
    (bits .and .u8 (b.toNat : Int) 15 = 5 ∧ pc b = [62]) ∨
    (bits .and .u8 (b.toNat : Int) 15 = 6 ∧ pc b = [96]) ∨
    (bits .and .u8 (b.toNat : Int) 15 = 7 ∧ pc b = [92]) ∨
    (bits .and .u8 (b.toNat : Int) 15 = 8 ∧ pc b = [97]) ∨
    (bits .and .u8 (b.toNat : Int) 15 = 9 ∧ pc b = [32]) ∨
    (bits .and .u8 (b.toNat : Int) 15 = 10 ∧ pc b = [106, 97, 118, 97, 115, 99, 114, 105, 112, 116, 58]) ∨
    (bits .and .u8 (b.toNat : Int) 15 = 11 ∧ pc b = [35]) ∨
    (bits .and .u8 (b.toNat : Int) 15 = 12 ∧ pc b = [96, 96]) ∨
    (bits .and .u8 (b.toNat : Int) 15 = 13 ∧ pc b = [60]) ∨
    (bits .and .u8 (b.toNat : Int) 15 = 14 ∧ pc b = [100, 97, 116, 97, 58]) ∨
    (bits .and .u8 (b.toNat : Int) 15 = 15 ∧ pc b = [227, 128, 128]) := by
  have hb : b.toNat < 256 := b.toNat_lt
  have h : bits .and .u8 (b.toNat : Int) ((15 : Nat) : Int) = ((b.toNat &&& 15 : Nat) : Int) := u8_and_nat _ _ hb (by omega)
  rw [show ((15 : Nat) : Int) = 15 from rfl] at h
  have h3 : b.toNat &&& 15 = b.toNat % 16 := Nat.and_two_pow_sub_one_eq_mod b.toNat 4
  rw [h, h3]
  have h8 : b.toNat % 16 < 16 := Nat.mod_lt _ (by omega)
  rcases (show b.toNat % 16 = 0 ∨ b.toNat % 16 = 1 ∨ b.toNat % 16 = 2 ∨ b.toNat % 16 = 3 ∨ b.toNat % 16 = 4 ∨ b.toNat % 16 = 5 ∨ b.toNat % 16 = 6 ∨ b.toNat % 16 = 7 ∨ b.toNat % 16 = 8 ∨ b.toNat % 16 = 9 ∨ b.toNat % 16 = 10 ∨ b.toNat % 16 = 11 ∨ b.toNat % 16 = 12 ∨ b.toNat % 16 = 13 ∨ b.toNat % 16 = 14 ∨ b.toNat % 16 = 15 from by omega) with e | e | e | e | e | e | e | e | e | e | e | e | e | e | e | e <;> simp [pc, e]
theorem pc_len (b : UInt8) : (pc b).length ≤ 11 := by
  rcases pc_ways b with ⟨-, e⟩ | ⟨-, e⟩ | ⟨-, e⟩ | ⟨-, e⟩ | ⟨-, e⟩ | ⟨-, e⟩ | ⟨-, e⟩ | ⟨-, e⟩ | ⟨-, e⟩ | ⟨-, e⟩ | ⟨-, e⟩ | ⟨-, e⟩ | ⟨-, e⟩ | ⟨-, e⟩ | ⟨-, e⟩ | ⟨-, e⟩ <;> rw [e] <;> decide
/-- what is made of the first of them -/
def md (n : Nat) (l : List UInt8) : List UInt8 := (l.take n).flatMap pc
theorem md_zero (l : List UInt8) : md 0 l = [] := by simp [md]
theorem md_succ {l : List UInt8} {n : Nat} (h : n < l.length) : md (n + 1) l = md n l ++ pc l[n] := by
  unfold md
  rw [List.take_succ_eq_append_getElem h, List.flatMap_append]; simp
theorem md_len (n : Nat) (l : List UInt8) (h : n ≤ l.length) : (md n l).length ≤ 11 * n := by
  induction n with
  | zero => simp [md]
  | succ n ih =>
    have h1 := ih (by omega)
    have h2 := pc_len l[n]
    rw [md_succ (by omega), List.length_append]; omega
theorem md_stop {l : List UInt8} {n : Nat} (h : n ≤ l.length) (h2 : n ≤ 24) (hs : l.length ≤ n ∨ 24 ≤ n) : md n l = md 24 l := by
  unfold md
  rcases hs with hs | hs
  · rw [List.take_of_length_le hs, List.take_of_length_le (by omega)]
  · rw [show n = 24 from by omega]
theorem md_all (l : List UInt8) : (md 24 l).length ≤ 264 := by
  have key : ∀ m : List UInt8, (m.flatMap pc).length ≤ 11 * m.length := by
    intro m
    induction m with
    | nil => simp
    | cons b r ih => have := pc_len b; simp only [List.flatMap_cons, List.length_append, List.length_cons]; omega
  have h1 := key (l.take 24)
  have h2 : (l.take 24).length ≤ 24 := by rw [List.length_take]; omega
  unfold md; omega

set_option maxHeartbeats 4000000 in
set_option maxRecDepth 100000 in
theorem made_fn (ks : List UInt8) (A : Option Addr) (c : Nat) (w : World) (h : Row w w.heap.size 1 A ks.length (bcells ks)) (hl : ks.length ≤ 9223372036854775807) :
    Calls Try.prog 7 #[.slice A ks.length c] w fun e w' => e = .returned (.string (bs (md 24 ks))) ∧ Below w.heap.size w w' := by
  have hR := Lib.hid h
  clear h
  go_enter Try.func7, Try.ntmps7
  go_wp2_with fail
  go_loopw [3, 4] (fun v j wr => ∃ i : Nat, i ≤ ks.length ∧ i ≤ 24 ∧ v = .string (bs (md i ks)) ∧ j = .int .i64 i ∧ Below w.heap.size w wr) (fun _ j _ => ks.length - (intOf j).toNat)
  case atStart => exact ⟨0, Nat.zero_le _, Nat.zero_le _, by rw [md_zero]; rfl, rfl, Below.refl _ _⟩
  case round =>
    obtain ⟨i, hk1, hk2, rfl, rfl, hb⟩ := hrel
    have hz1 := bs_size (md i ks)
    have hml := md_len i ks hk1
    by_cases hgo : i < ks.length ∧ i < 24
    · obtain ⟨hg1, hg2⟩ := hgo
      obtain ⟨b, o, rfl, hbb, hc⟩ := hR.out.at1 (show 0 < ks.length by omega)
      have hx : wr.cell? ⟨b, o + i, none⟩ = some (.int .u8 (ks[i].toNat : Int)) := (hb.cell hbb).trans ((hc i hg1).trans (by simp [bcells, bv]))
      clear hc
      have hbw : b < wr.heap.size := Nat.lt_of_lt_of_le hbb hb.size
      have hms := Lib.hid (md_succ hg1)
      obtain ⟨t, ht⟩ : ∃ t, md i ks = t := ⟨_, rfl⟩
      rw [ht] at hz1 hml
      have hms2 : Hid (md (i + 1) ks = t ++ pc ks[i]) := Lib.hid (by rw [hms.out, ht])
      rw [ht]
      clear ht hms
      rcases pc_ways ks[i] with ⟨hq, hp⟩ | ⟨hq, hp⟩ | ⟨hq, hp⟩ | ⟨hq, hp⟩ | ⟨hq, hp⟩ | ⟨hq, hp⟩ | ⟨hq, hp⟩ | ⟨hq, hp⟩ | ⟨hq, hp⟩ | ⟨hq, hp⟩ | ⟨hq, hp⟩ | ⟨hq, hp⟩ | ⟨hq, hp⟩ | ⟨hq, hp⟩ | ⟨hq, hp⟩ | ⟨hq, hp⟩
      all_goals
        replace hp := Lib.hid hp
        go_wp2_with fail
        go_roundw
        case rel => exact ⟨i + 1, by omega, by omega, by rw [hms2.out, hp.out, ← bs_append]; rfl, by go_num, hb.trans ((Below.refl _ _).alloc hb.size _)⟩
        case measure => simp [intOf]; omega
    · have hstop : ks.length ≤ i ∨ i < ks.length ∧ 24 ≤ i := by omega
      have hfin := Lib.hid (md_stop hk1 hk2 (by omega))
      clear hgo
      rcases hstop with hst | ⟨hst, hst2⟩
      all_goals
        go_wp2
        go_returns
        exact ⟨by rw [← hfin.out]; rfl, hb⟩
end Go.Proofs.Ytjkmhcolnidflaa
