/- Any text whose signs are escaped is a destination, by no program. -/
import Derived.Test.YtjkmhcolnidflaaLkMath
namespace Go.Proofs.Ytjkmhcolnidflaa.Lk
open Go.Lib Ru Es

/-- a rune, a backslash ahead of it where it is a sign -/
def quoteR (x : Nat) : List UInt8 := (if asciiB (x : Int) = true then [92] else []) ++ encodeRune (x : Int)
def quoteV (V : List Nat) : List UInt8 := V.flatMap quoteR
theorem quoteV_nil : quoteV [] = [] := rfl
theorem quoteV_cons (x : Nat) (V : List Nat) : quoteV (x :: V) = quoteR x ++ quoteV V := rfl
theorem quoteV_snoc (V : List Nat) (x : Nat) : quoteV (V ++ [x]) = quoteV V ++ quoteR x := by simp [quoteV]
theorem quoteR_len (x : Nat) : 1 ≤ (quoteR x).length ∧ (quoteR x).length ≤ 5 := by
  have := encodeRune_len (x : Int)
  unfold quoteR; rw [List.length_append]; split <;> simp <;> omega
theorem quoteV_len (V : List Nat) : (quoteV V).length ≤ 5 * V.length := by
  induction V with
  | nil => simp [quoteV]
  | cons x r ih => have := quoteR_len x; rw [quoteV_cons, List.length_append, List.length_cons]; omega
theorem ascii_lt {x : Nat} (h : asciiB (x : Int) = true) : x < 128 := by
  unfold asciiB at h; have := of_decide_eq_true h; omega
theorem enc_low {x : Nat} (h : x < 128) : encodeRune (x : Int) = [UInt8.ofNat x] := by
  unfold encodeRune; rw [encodeRuneZ_one (by omega) (by omega)]; simp
theorem step_quoteR {x : Nat} (hv : vr x) (t : List UInt8) : Es.step (quoteR x ++ t) = (x, (quoteR x).length, asciiB (x : Int)) := by
  cases ha : asciiB (x : Int) with
  | true =>
    have hx := ascii_lt ha
    have hn : (UInt8.ofNat x).toNat = x := by rw [UInt8.toNat_ofNat']; omega
    have hq : quoteR x = [92, UInt8.ofNat x] := by unfold quoteR; rw [if_pos ha, enc_low hx]; rfl
    have hasc : asc (UInt8.ofNat x) = true := by unfold asc; rw [hn]; exact ha
    have he : isEsc (quoteR x ++ t) = true := by rw [hq]; simp [isEsc, hasc]
    rw [step_yes he, hq]
    simp [hn]
  | false =>
    have hq : quoteR x = encodeRune (x : Int) := by unfold quoteR; rw [if_neg (by rw [ha]; decide)]; rfl
    have hd := decode_encode x hv t
    have hl := (encodeRune_len (x : Int)).1
    have he : isEsc (encodeRune (x : Int) ++ t) = false := by
      match hm : encodeRune (x : Int), hl with
      | b :: r, _ =>
        rw [hm, List.cons_append] at hd
        rw [List.cons_append]
        refine isEsc_high fun hb => ?_
        rw [hb, decodeL_low (by decide)] at hd
        injection hd with h1 _
        rw [← h1] at ha
        exact absurd ha (by decide)
    rw [hq, step_no he, hd]
theorem plain_quoteV : ∀ V : List Nat, (∀ x ∈ V, vr x) → plain (quoteV V) = V
  | [], _ => rfl
  | x :: V, h => by
    have hl := (quoteR_len x).1
    have hne : quoteR x ++ quoteV V ≠ [] := by intro hc; have h2 := congrArg List.length hc; rw [List.length_append, List.length_nil] at h2; omega
    rw [quoteV_cons, plain_step hne, step_quoteR (h x (by simp)), List.drop_left' rfl, plain_quoteV V fun y hy => h y (by simp [hy])]
theorem dends_quote : ∀ (V : List Nat) (pre t : List UInt8), (∀ x ∈ V, vr x ∧ blankB (x : Int) = false) → dends (pre ++ quoteV V ++ 41 :: t) pre.length = some (pre.length + (quoteV V).length)
  | [], pre, t, _ => by
    have hk : pre.length < (pre ++ quoteV [] ++ 41 :: t).length := by simp [quoteV]
    have hd : (pre ++ quoteV [] ++ 41 :: t).drop pre.length = 41 :: t := by rw [quoteV_nil, List.append_nil]; exact List.drop_left' rfl
    have hs : Es.step (41 :: t) = (41, 1, false) := by rw [step_no (isEsc_high (by decide)), decodeL_low (by decide)]; rfl
    rw [dends_step hk, next_in hk, hd, hs, if_pos ⟨rfl, rfl⟩]
    simp [quoteV]
  | x :: V, pre, t, h => by
    have hl := (quoteR_len x).1
    obtain ⟨hv, hb⟩ := h x (by simp)
    have hk : pre.length < (pre ++ quoteV (x :: V) ++ 41 :: t).length := by simp only [List.length_append, List.length_cons]; omega
    have hd : (pre ++ quoteV (x :: V) ++ 41 :: t).drop pre.length = quoteR x ++ (quoteV V ++ 41 :: t) := by
      rw [List.append_assoc, List.drop_left' rfl, quoteV_cons, List.append_assoc]
    have ih := dends_quote V (pre ++ quoteR x) t fun y hy => h y (by simp [hy])
    rw [List.length_append] at ih
    have he : pre ++ quoteV (x :: V) ++ 41 :: t = pre ++ quoteR x ++ quoteV V ++ 41 :: t := by rw [quoteV_cons]; simp
    have hlen : (quoteV (x :: V)).length = (quoteR x).length + (quoteV V).length := by rw [quoteV_cons, List.length_append]
    rw [dends_step hk, next_in hk, hd, step_quoteR hv]
    simp only
    cases ha : asciiB (x : Int) with
    | true =>
      rw [if_neg (by simp), if_neg (by simp), he, ih, hlen, Nat.add_assoc]
    | false =>
      have h41 : x ≠ 41 := fun hc => by subst hc; exact absurd ha (by decide)
      have h40 : x ≠ 40 := fun hc => by subst hc; exact absurd ha (by decide)
      rw [if_neg (fun hc => h41 hc.2), if_neg (fun hc => by
        rcases hc.2 with hc | hc
        · exact h40 hc
        · rw [hb] at hc; cases hc), he, ih, hlen, Nat.add_assoc]
theorem dest_quote {V : List Nat} (h : ∀ x ∈ V, vr x ∧ blankB (x : Int) = false) (t : List UInt8) : dest (40 :: quoteV V ++ 41 :: t) 0 = some (Ru.enc V, (quoteV V).length + 2) := by
  have h1 := dends_quote V [40] t h
  rw [show ([40] : List UInt8).length = 1 from rfl] at h1
  have e : ([40] : List UInt8) ++ quoteV V ++ 41 :: t = 40 :: quoteV V ++ 41 :: t := rfl
  rw [e] at h1
  have h2 := dest_on (l := 40 :: quoteV V ++ 41 :: t) (k := 0) (by simp) (by simp)
  rw [show ((0 : Nat) : Int) = 0 from rfl] at h2
  rw [h2, Nat.zero_add, h1]
  have hm : mid (40 :: quoteV V ++ 41 :: t) 1 (1 + (quoteV V).length) = quoteV V := by
    unfold mid
    rw [show 1 + (quoteV V).length - 1 = (quoteV V).length by omega]
    simp only [List.cons_append, List.drop_succ_cons, List.drop_zero]
    exact List.take_left' rfl
  simp only [Option.map_some, hm, plain_quoteV V fun x hx => (h x hx).1, Option.some.injEq, Prod.mk.injEq, true_and]
  omega
end Go.Proofs.Ytjkmhcolnidflaa.Lk
