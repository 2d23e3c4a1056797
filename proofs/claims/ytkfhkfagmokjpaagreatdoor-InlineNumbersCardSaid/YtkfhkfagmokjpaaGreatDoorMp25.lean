/- Package inline: fold: pairs that close at a run put the last row into the one ahead of it. Package inline: fold: the signs of a run that are left are said. Package inline: fold. Package inline: fold: what is read while rows are laid into one another; the first row. Package inline: fold: rows with runs between them become one. Package inline: fold, with runs or without. Package inline's reader, as it lies in memory; a plain rune is read. Package inline: a rune is read as it is. -/
import Derived.Test.YtkfhkfagmokjpaaGreatDoorMp17
import Derived.Test.YtkfhkfagmokjpaaGreatDoorMp08
import Derived.Test.YtkfhkfagmokjpaaGreatDoorMp02
import Derived.Test.YtkfhkfagmokjpaaGreatDoorMp20
import Derived.Test.YtkfhkfagmokjpaaGreatDoorMp19
namespace Go.Proofs.YtkfhkfagmokjpaaGreatDoor
open Go.RowKit

abbrev noM : Ky → Option Pa := fun _ => none
/-- rows within one another, pairs to come -/
structure FS (B : Nat) (m0 : Ky → Option Pa) (w0 : World) (X : List (Nat × Nat × Nat)) (k : Nat) (A : Option Addr) (c : Nat) (v : Value) (ns : List Il.Rw) (V : List V3) (w : World) : Prop where
  rs : RS w B noM 6 7 8 v ns V
  pr : RowI w (Fr w B (rowsF noM 6 7 8 v ns V)) 3 A (X.length - k) (pcells (X.drop k))
  cap : X.length - k ≤ c
  kl : k ≤ X.length
  ok : ∀ R ∈ ns, R.ok
  tu : Turn B m0 w0 (rowsF noM 6 7 8 v ns V) w
def stk (ns : List Il.Rw) : List (List Il.In) := (ns.map Il.Rw.full).reverse
theorem stk_two (N : List Il.Rw) (R K : Il.Rw) : stk (N ++ [R] ++ [K]) = K.full :: R.full :: stk N := by simp [stk]
theorem stk_one (N : List Il.Rw) (R : Il.Rw) : stk (N ++ [R]) = R.full :: stk N := by simp [stk]
/-- behind one run -/
def after (LF : Nat → Nat) (ch : Nat → UInt8) (i : Nat) (F : List Il.In) (Fs : List (List Il.In)) (S : Il.Sk) : Il.Sk :=
  Il.mrows LF ch (i + 1) Fs ((Il.run1 LF i (ch i) S).1, Il.topPuts (Il.run1 LF i (ch i) S).2 F)
theorem after_close {LF : Nat → Nat} {ch : Nat → UInt8} {i : Nat} {F : List Il.In} {Fs : List (List Il.In)} {x : Nat × Nat × Nat} {X : List (Nat × Nat × Nat)} {st : List (List Il.In)} (h : x.2.1 = i) : after LF ch i F Fs (x :: X, st) = after LF ch i F Fs (X, Il.shut1 st x.2.2) := by
  unfold after Il.run1
  have e : Il.closeAll i (x :: X) st = Il.closeAll i X (Il.shut1 st x.2.2) := by
    conv => lhs; unfold Il.closeAll
    rw [if_pos h]
  simp only [e]
theorem closeAll_stop {i : Nat} {x : Nat × Nat × Nat} {X : List (Nat × Nat × Nat)} {st : List (List Il.In)} (h : x.2.1 ≠ i) : Il.closeAll i (x :: X) st = (x :: X, st) := by unfold Il.closeAll; rw [if_neg h]
theorem cut_pairs (A : Option Addr) (n c : Nat) (h : 1 ≤ n) (w : World) : (Instr.slice 92 (.slice A n c) (some (.int .i64 1)) none none).run Tryz.prog w = .ok (.slice (cutA 3 A c 1) (n - 1) (c - 1)) w := by
  have hT : Tryz.prog.underlying 92 = some (.slice (Tryz.prog.elem 92)) := by kernel_rfl
  have hsz : ∀ w, (sizeOf (Tryz.prog.elem 92)).run Tryz.prog w = .ok 3 w := fun w => by kernel_rfl
  rw [run_slice_l w 92 A n c hT .i64 1 (by omega) (by omega), hsz]
  simp [sliced, cutA, Result.andThen]
theorem rowI_cut {w : World} {Q : Nat → Prop} {size n : Nat} {A : Option Addr} {xs : List Value} (h : RowI w Q size A n xs) {c lo : Nat} (h1 : lo ≤ n) (h3 : n ≤ c) :
    RowI w Q size (cutA size A c lo) (n - lo) (xs.drop (lo * size)) := by
  refine ⟨by rw [List.length_drop, h.1, Nat.sub_mul], fun hn => ?_⟩
  obtain ⟨b, o, rfl, hb, hc⟩ := h.2 (by omega)
  refine ⟨b, o + lo * size, ?_, hb, fun j u hu => ?_⟩
  · unfold cutA
    rw [if_neg (by omega)]
    simp only [Option.map_some, Addr.add]
    split
    · rename_i h0; rw [h0]; rfl
    · rfl
  · have := hc (lo * size + j) u (by rwa [List.getElem?_drop] at hu)
    rwa [← Nat.add_assoc] at this
theorem pcells_drop (X : List (Nat × Nat × Nat)) (k : Nat) : (pcells (X.drop k)).drop 3 = pcells (X.drop (k + 1)) := by
  rcases Nat.lt_or_ge k X.length with h | h
  · rw [List.drop_eq_getElem_cons h]; rfl
  · rw [List.drop_eq_nil_of_le h, List.drop_eq_nil_of_le (show X.length ≤ k + 1 by omega)]; rfl
theorem count_more {X : List (Nat × Nat × Nat)} {k i : Nat} (hk : k < X.length) (hg : ∀ x ∈ X, x.1 < x.2.1) (hle : ∀ x ∈ X.take k, x.2.1 ≤ i) (hx : X[k].2.1 = i) : k + 1 ≤ X.countP fun x => decide (x.1 < i) := by
  have h1 : (X.take (k + 1)).countP (fun x => decide (x.1 < i)) = (X.take (k + 1)).length := by
    rw [List.countP_eq_length]
    intro x hx2
    rw [List.take_succ_eq_append_getElem hk] at hx2
    rcases List.mem_append.1 hx2 with h | h
    · have := hle x h
      have := hg x (List.mem_of_mem_take h)
      simp; omega
    · obtain rfl := List.mem_singleton.1 h
      have := hg _ (List.getElem_mem hk)
      simp; omega
  have h2 : X.countP (fun x => decide (x.1 < i)) = (X.take (k + 1)).countP (fun x => decide (x.1 < i)) + (X.drop (k + 1)).countP (fun x => decide (x.1 < i)) := by
    rw [← List.countP_append, List.take_append_drop]
  rw [List.length_take] at h1
  omega
theorem two_last {α : Type} {l : List α} (h : 2 ≤ l.length) : ∃ N R K, l = N ++ [R] ++ [K] := by
  rcases List.eq_nil_or_concat l with e | ⟨o, K, e⟩
  · subst e; simp at h
  · rw [List.concat_eq_append] at e
    subst e
    rcases List.eq_nil_or_concat o with e | ⟨N, R, e⟩
    · subst e; simp at h
    · rw [List.concat_eq_append] at e
      subst e
      exact ⟨N, R, K, rfl⟩
/-- how long a slice is -/
def sliceLen : Value → Nat
  | .slice _ n _ => n
  | _ => 0

set_option maxHeartbeats 8000000 in
set_option maxRecDepth 100000 in
theorem fold_close (B : Nat) (m0 : Ky → Option Pa) (w0 : World) (X : List (Nat × Nat × Nat)) (i C M : Nat) (LF : Nat → Nat) (ch : Nat → UInt8) (F : List Il.In) (Fs : List (List Il.In)) (fin : Il.Sk) (hg : ∀ x ∈ X, x.1 < x.2.1 ∧ x.2.1 ≤ 4000000 ∧ x.2.2 ≤ 2) (hC : C = X.countP fun x => decide (x.1 < i)) (hM : M ≤ 1000000000) (hXl : X.length ≤ 400000000)
    (k : Nat) (A : Option Addr) (c : Nat) (v : Value) (ns : List Il.Rw) (V : List V3) (w : World) (h0 : FS B m0 w0 X k A c v ns V w) (h1 : after LF ch i F Fs (X.drop k, stk ns) = fin) (h2 : ns.length + k = 1 + C) (h3 : ∀ x ∈ X.take k, x.2.1 ≤ i) (h4 : Il.wts ns + 2 * (X.length - k) ≤ M) (hB : B ≤ w.heap.size)
    (s0 s1 s2 s3 s4 s6 s7 s10 s11 s12 s13 s14 s15 s16 s17 s18 s19 s20 s21 s22 s23 s24 s25 s26 s27 s28 s29 s30 s31 s32 s33 s34 s35 s36 s37 s38 s39 s40 s41 s42 s43 s44 s45 s46 s47 s48 s49 s50 s51 s52 s53 s54 s55 s56 s57 s58 s59 s60 s61 s62 s63 s64 s65 s66 s67 s68 s69 s70 s71 s72 s73 s74 s75 s76 s77 s78 s79 s80 s81 s82 s83 s84 s85 s86 : Value) (Q0 : Exit → Act → World → Prop)
    (hexit : ∀ (k' : Nat) (A' : Option Addr) (c' : Nat) (v' : Value) (ns' : List Il.Rw) (V' : List V3) (u36 u37 u38 u39 u40 u41 u42 u43 u44 u45 u46 u47 u48 u49 u50 u51 u52 u53 u54 u55 : Value) (wq : World), Hid (FS B m0 w0 X k' A' c' v' ns' V' wq) ∧ Hid (after LF ch i F Fs (X.drop k', stk ns') = fin) ∧ (ns').length + k' = 1 + C ∧ Hid (∀ x ∈ X.take k', x.2.1 ≤ i) ∧ Il.wts ns' + 2 * (X.length - k') ≤ M → Il.closeAll i (X.drop k') (stk ns') = (X.drop k', stk ns') → Q0 (.exit 2) ⟨(s0 :: s1 :: s2 :: s3 :: s4 :: .slice A' (X.length - k') c' :: s6 :: s7 :: v' :: .int .i64 (i : Int) :: s10 :: s11 :: s12 :: s13 :: s14 :: s15 :: s16 :: s17 :: s18 :: s19 :: s20 :: s21 :: s22 :: s23 :: s24 :: s25 :: s26 :: s27 :: s28 :: s29 :: s30 :: s31 :: s32 :: s33 :: s34 :: s35 :: u36 :: u37 :: u38 :: u39 :: u40 :: u41 :: u42 :: u43 :: u44 :: u45 :: u46 :: u47 :: u48 :: u49 :: u50 :: u51 :: u52 :: u53 :: u54 :: u55 :: s56 :: s57 :: s58 :: s59 :: s60 :: s61 :: s62 :: s63 :: s64 :: s65 :: s66 :: s67 :: s68 :: s69 :: s70 :: s71 :: s72 :: s73 :: s74 :: s75 :: s76 :: s77 :: s78 :: s79 :: s80 :: s81 :: s82 :: s83 :: s84 :: s85 :: s86 :: []).toArray, []⟩ wq) :
    Code.wp Tryz.prog (Code.loop (loopBody Tryz.f23 1)) Q0 ⟨(s0 :: s1 :: s2 :: s3 :: s4 :: .slice A (X.length - k) c :: s6 :: s7 :: v :: .int .i64 (i : Int) :: s10 :: s11 :: s12 :: s13 :: s14 :: s15 :: s16 :: s17 :: s18 :: s19 :: s20 :: s21 :: s22 :: s23 :: s24 :: s25 :: s26 :: s27 :: s28 :: s29 :: s30 :: s31 :: s32 :: s33 :: s34 :: s35 :: s36 :: s37 :: s38 :: s39 :: s40 :: s41 :: s42 :: s43 :: s44 :: s45 :: s46 :: s47 :: s48 :: s49 :: s50 :: s51 :: s52 :: s53 :: s54 :: s55 :: s56 :: s57 :: s58 :: s59 :: s60 :: s61 :: s62 :: s63 :: s64 :: s65 :: s66 :: s67 :: s68 :: s69 :: s70 :: s71 :: s72 :: s73 :: s74 :: s75 :: s76 :: s77 :: s78 :: s79 :: s80 :: s81 :: s82 :: s83 :: s84 :: s85 :: s86 :: []).toArray, []⟩ w := by
  replace hexit := Lib.hid hexit
  replace h0 := Lib.hid h0
  replace h1 := Lib.hid h1
  replace h3 := Lib.hid h3
  replace hg := Lib.hid hg
  replace hC := Lib.hid hC
  have hBw : Hid (∀ u, Below B w u → B ≤ u.heap.size) := Lib.hid (fun u hu => Nat.le_trans hB hu.size)
  conv => arg 2; arg 1; whnf
  go_loopw [5, 8] (fun a b wr => ∃ (k : Nat) (A : Option Addr) (c : Nat) (v : Value) (ns : List Il.Rw) (V : List V3), a = .slice A (X.length - k) c ∧ b = v ∧ Hid (FS B m0 w0 X k A c v ns V wr) ∧ Hid (after LF ch i F Fs (X.drop k, stk ns) = fin) ∧ (ns).length + k = 1 + C ∧ Hid (∀ x ∈ X.take k, x.2.1 ≤ i) ∧ Il.wts ns + 2 * (X.length - k) ≤ M ∧ B ≤ wr.heap.size) (fun a _ _ => sliceLen a)
  case atStart => exact ⟨k, A, c, v, ns, V, rfl, rfl, h0, h1, h2, h3, h4, hB⟩
  case round =>
    clear h0 h1 h2 h3 h4 hB hBw
    obtain ⟨k, A, c, v, ns, V, rfl, rfl, h0, h1, h2, h3, h4, hB⟩ := hrel
    have hkl := h0.out.kl
    by_cases hlt : k < X.length
    · have hpr := h0.out.pr
      obtain ⟨b, o, rfl, hqb, hcell⟩ := hpr.2 (by omega)
      have hdk : X.drop k = X[k] :: X.drop (k + 1) := List.drop_eq_getElem_cons hlt
      have hat : ∀ j, j < 3 → (pcells (X.drop k))[j]? = (pcell X[k])[j]? := fun j hj => by
        rw [hdk]
        show (pcell X[k] ++ pcells (X.drop (k + 1)))[j]? = _
        rw [List.getElem?_append_left (by simpa [pcell] using hj)]
      have hgk := hg.out _ (List.getElem_mem hlt)
      have hcm := fun e => count_more hlt (fun x hx => (hg.out x hx).1) h3.out e
      have htk : X.take (k + 1) = X.take k ++ [X[k]] := List.take_succ_eq_append_getElem hlt
      generalize X[k] = x at hat hgk hdk hcm htk
      obtain ⟨pa, pb, ps⟩ := x
      have x1 := hcell _ _ (hat 1 (by omega))
      have x2 := hcell _ _ (hat 2 (by omega))
      simp only at hgk hcm
      have hbr : b < wr.heap.size := hqb.2.1
      have hn0 : 0 < X.length - k := by omega
      obtain ⟨n, hn⟩ : ∃ n, n = X.length - k := ⟨_, rfl⟩
      rw [← hn] at hn0 ⊢
      have hcap : n ≤ c := by rw [hn]; exact h0.out.cap
      by_cases hpb : pb = i
      · have t1 : ((pb : Int) == (i : Int)) = true := by simp [hpb]
        have hcm2 := hcm hpb
        rw [← hC.out] at hcm2
        obtain ⟨N, R, K, hns⟩ := two_last (l := ns) (by omega)
        subst hns
        have hwN : Il.wts (N ++ [R] ++ [K]) = Il.wts N + R.wt + K.wt := by
          rw [Il.wts_append, Il.wts_append, Il.wts_cons, Il.wts_cons]
          have : Il.wts [] = 0 := rfl
          omega
        have hNl : N.length + 2 + k = 1 + C := by simpa using h2
        have hCX : C ≤ X.length := by rw [hC.out]; exact List.countP_le_length
        have hshut := Lib.hid (pshut_any (m := noM) ⟨by decide, by decide, by decide⟩ N R K h0.out.rs hB (Il.kd ps) (by omega) (by omega) (by omega))
        have hst := Lib.hid (fun w => pstress_any ps (by omega) w)
        have hcut := fun w => cut_pairs (some ⟨b, o, none⟩) n c (by omega) w
        have hpr2 := Lib.hid (rowI_cut hpr (c := c) (lo := 1) (by omega) h0.out.cap)
        have hok := Lib.hid h0.out.ok
        have hkd : Il.kd ps ≠ 0 := by unfold Il.kd; split <;> omega
        have hwp := R.wt_put (.mk (Il.kd ps) [] [] K.full)
        have hmean : Hid (after LF ch i F Fs (X.drop (k + 1), stk (N ++ [R.put (.mk (Il.kd ps) [] [] K.full)])) = fin) := Lib.hid (by
          rw [← h1.out, hdk, after_close hpb, stk_two, stk_one, Il.Rw.full_put R hkd]; rfl)
        have hle : Hid (∀ x ∈ X.take (k + 1), x.2.1 ≤ i) := Lib.hid (fun x hx => by
          rw [htk] at hx
          rcases List.mem_append.1 hx with h | h
          · exact h3.out x h
          · obtain rfl := List.mem_singleton.1 h; simp only; omega)
        have hwt : Il.wts (N ++ [R.put (.mk (Il.kd ps) [] [] K.full)]) + 2 * (X.length - (k + 1)) ≤ M := by
          rw [Il.wts_append, Il.wts_cons]
          have e1 : Il.wts [] = 0 := rfl
          have e2 : Il.tlen (.mk (Il.kd ps) [] [] K.full) = 0 := rfl
          omega
        replace hpb := Lib.hid hpb
        replace hdk := Lib.hid hdk
        replace htk := Lib.hid htk
        replace hn := Lib.hid hn
        replace hkd := Lib.hid hkd
        replace hwN := Lib.hid hwN
        replace hNl := Lib.hid hNl
        replace hwp := Lib.hid hwp
        replace hC := Lib.hid hC.out
        obtain ⟨kk, hkk⟩ : ∃ kk, kk = Il.kd ps := ⟨_, rfl⟩
        rw [← hkk] at hshut hmean hwt hst hkd
        replace hkk := Lib.hid hkk
        clear hcell hat hpr hqb hexit
        go_wp2_with fail
        refine (hst.out _).mono ?_
        rintro e wz ⟨rfl, rfl⟩
        go_wp2_with fail
        refine hshut.out.mono ?_
        rintro e w3 ⟨v3, rfl, V3, hR3, hT3⟩
        have hpr3 := hT3.rowI hpr2.out
        have hn1 : n - 1 = X.length - (k + 1) := by rw [hn.out]; omega
        have h03 : Hid (FS B m0 w0 X (k + 1) (cutA 3 (some ⟨b, o, none⟩) c 1) (c - 1) v3 (N ++ [R.put (.mk kk [] [] K.full)]) V3 w3) := Lib.hid
          ⟨hR3, by rw [Nat.one_mul, pcells_drop, Nat.sub_sub] at hpr3; exact hpr3, by omega, by omega, fun Z hZ => by
            rcases List.mem_append.1 hZ with h | h
            · exact hok.out Z (by simp [h])
            · obtain rfl := List.mem_singleton.1 h
              exact Il.Rw.ok_put (hok.out R (by simp)) hkd.out _ _ _, h0.out.tu.trans hT3⟩
        have hB3 : B ≤ w3.heap.size := Nat.le_trans hB hT3.bel.size
        have hlen3 : (N ++ [R.put (.mk kk [] [] K.full)]).length + (k + 1) = 1 + C := by
          have := hNl.out
          simp; omega
        replace hlen3 := Lib.hid hlen3
        clear hR3 hT3 hpr3 h0 hshut
        go_wp2_with fail
        go_roundw
        case rel => exact ⟨k + 1, _, c - 1, v3, _, V3, by first | rfl | rw [hn1], rfl, h03, hmean, hlen3.out, hle, hwt, hB3⟩
        case measure => simp [sliceLen]; omega
      · have t1 : ((pb : Int) == (i : Int)) = false := by simp; omega
        have hstop : Hid (Il.closeAll i (X.drop k) (stk ns) = (X.drop k, stk ns)) := Lib.hid (by rw [hdk]; exact closeAll_stop hpb)
        replace hpb := Lib.hid hpb
        replace hdk := Lib.hid hdk
        replace htk := Lib.hid htk
        replace hn := Lib.hid hn
        clear hcell hat hpr hqb hcm
        go_wp2_with fail
        rw [hn.out]
        exact hexit.out k _ c u8 ns V _ _ _ _ _ _ _ _ _ _ _ _ _ _ _ _ _ _ _ _  wr ⟨h0, h1, h2, h3, h4⟩ hstop.out
    · have hkX : X.length - k = 0 := by omega
      have hstop : Hid (Il.closeAll i (X.drop k) (stk ns) = (X.drop k, stk ns)) := Lib.hid (by rw [List.drop_eq_nil_of_le (by omega)]; rfl)
      obtain ⟨n, hn⟩ : ∃ n, n = X.length - k := ⟨_, rfl⟩
      rw [← hn]
      have hn0 : ¬ 0 < n := by omega
      replace hn := Lib.hid hn
      replace hkX := Lib.hid hkX
      go_wp2_with fail
      rw [hn.out]
      exact hexit.out k A c u8 ns V _ _ _ _ _ _ _ _ _ _ _ _ _ _ _ _ _ _ _ _  wr ⟨h0, h1, h2, h3, h4⟩ hstop.out
end Go.Proofs.YtkfhkfagmokjpaaGreatDoor

namespace Go.Proofs.YtkfhkfagmokjpaaGreatDoor
open Go.RowKit
attribute [local go_sem] canOp readsAs readUpon

theorem lastI_at {α : Type} {ns : List α} (h : ns ≠ []) : ∃ R, ns[ns.length - 1]? = some R ∧ ∀ f : α → α, Il.lastI f ns = ns.set (ns.length - 1) (f R) := by
  have hp : 0 < ns.length := List.length_pos_iff.2 h
  refine ⟨ns[ns.length - 1]'(by omega), List.getElem?_eq_getElem (by omega), fun f => Il.lastI_set f (by omega) (by omega)⟩
theorem enc_low {b : UInt8} (h : b.toNat < 128) : Lib.encodeRune ((b.toNat : Nat) : Int) = [b] := by
  unfold Lib.encodeRune
  rw [Lib.encodeRuneZ_one (by omega) (by omega)]
  simp
theorem FS.say {B : Nat} {m0 : Ky → Option Pa} {w0 : World} {X : List (Nat × Nat × Nat)} {k : Nat} {A : Option Addr} {c : Nat} {v : Value} {ns : List Il.Rw} {V : List V3} {w w' : World} (h : FS B m0 w0 X k A c v ns V w) {f : Il.Rw → Il.Rw} (hf : ∀ R, R.ok → (f R).ok) {V' : List V3} (hR : RS w' B noM 6 7 8 v (Il.lastI f ns) V') (t : Turn B (rowsF noM 6 7 8 v ns V) w (rowsF noM 6 7 8 v (Il.lastI f ns) V') w') : FS B m0 w0 X k A c v (Il.lastI f ns) V' w' :=
  ⟨hR, t.rowI h.pr, h.cap, h.kl, Il.lastI_mem h.ok hf, h.tu.trans t⟩

set_option maxHeartbeats 8000000 in
set_option maxRecDepth 100000 in
theorem fold_say (B : Nat) (m0 : Ky → Option Pa) (w0 : World) (X : List (Nat × Nat × Nat)) (L bx : Nat) (b : UInt8) (rn : Int) (ro rc : Bool) (hb : b.toNat < 128) (hL : L ≤ 1000000000) (k : Nat) (A : Option Addr) (c : Nat) (v : Value) (ns : List Il.Rw) (V : List V3) (w : World) (h0 : FS B m0 w0 X k A c v ns V w) (hne : ns ≠ []) (hnl : ns.length ≤ 1000000000) (hw : Il.wts ns ≤ 1000000000) (hB : B ≤ w.heap.size)
    (hbx : Fr w B (rowsF noM 6 7 8 v ns V) bx) (hbc : w.heap[bx]? = some (.cells #[.int .u8 (b.toNat : Int), .int .i64 rn, .bool ro, .bool rc] 96))
    (s0 s1 s2 s3 s4 s5 s6 s7 s9 s11 s12 s13 s14 s15 s16 s17 s18 s19 s20 s21 s22 s23 s24 s25 s26 s27 s28 s29 s30 s31 s32 s33 s34 s35 s36 s37 s38 s39 s40 s41 s42 s43 s44 s45 s46 s47 s48 s49 s50 s51 s52 s53 s54 s55 s56 s57 s58 s61 s62 s63 s64 s65 s66 s67 s68 s69 s70 s71 s72 s73 s74 s75 s76 s77 s78 s79 s80 s81 s82 s83 s84 s85 s86 : Value) (Q0 : Exit → Act → World → Prop) (hpan : ∀ c a d v w, Q0 (.panic c) (Act.put a d v) w → Q0 (.panic c) a w)
    (hexit : ∀ (V' : List V3) (u60 u61 u62 u63 u64 u65 u66 u67 u68 : Value) (wq : World), FS B m0 w0 X k A c v (Il.lastI (fun R => R.say (List.replicate L b)) ns) V' wq → B ≤ wq.heap.size → Q0 (.exit 4) ⟨(s0 :: s1 :: s2 :: s3 :: s4 :: s5 :: s6 :: s7 :: v :: s9 :: .pointer (some ⟨bx, 0, none⟩) :: s11 :: s12 :: s13 :: s14 :: s15 :: s16 :: s17 :: s18 :: s19 :: s20 :: s21 :: s22 :: s23 :: s24 :: s25 :: s26 :: s27 :: s28 :: s29 :: s30 :: s31 :: s32 :: s33 :: s34 :: s35 :: s36 :: s37 :: s38 :: s39 :: s40 :: s41 :: s42 :: s43 :: s44 :: s45 :: s46 :: s47 :: s48 :: s49 :: s50 :: s51 :: s52 :: s53 :: s54 :: s55 :: s56 :: s57 :: s58 :: .int .i64 (L : Int) :: u60 :: u61 :: u62 :: u63 :: u64 :: u65 :: u66 :: u67 :: u68 :: s69 :: s70 :: s71 :: s72 :: s73 :: s74 :: s75 :: s76 :: s77 :: s78 :: s79 :: s80 :: s81 :: s82 :: s83 :: s84 :: s85 :: s86 :: []).toArray, []⟩ wq) :
    Code.wp Tryz.prog (Code.loop (loopBody Tryz.f23 2)) Q0 ⟨(s0 :: s1 :: s2 :: s3 :: s4 :: s5 :: s6 :: s7 :: v :: s9 :: .pointer (some ⟨bx, 0, none⟩) :: s11 :: s12 :: s13 :: s14 :: s15 :: s16 :: s17 :: s18 :: s19 :: s20 :: s21 :: s22 :: s23 :: s24 :: s25 :: s26 :: s27 :: s28 :: s29 :: s30 :: s31 :: s32 :: s33 :: s34 :: s35 :: s36 :: s37 :: s38 :: s39 :: s40 :: s41 :: s42 :: s43 :: s44 :: s45 :: s46 :: s47 :: s48 :: s49 :: s50 :: s51 :: s52 :: s53 :: s54 :: s55 :: s56 :: s57 :: s58 :: .int .i64 (L : Int) :: .int .i64 0 :: s61 :: s62 :: s63 :: s64 :: s65 :: s66 :: s67 :: s68 :: s69 :: s70 :: s71 :: s72 :: s73 :: s74 :: s75 :: s76 :: s77 :: s78 :: s79 :: s80 :: s81 :: s82 :: s83 :: s84 :: s85 :: s86 :: []).toArray, []⟩ w := by
  obtain ⟨g, cp, hv, _, _, _⟩ := h0.rs.slice (List.length_pos_iff.2 hne)
  have hwr : IntKind.i32.wrap (b.toNat : Int) = (b.toNat : Int) := by unfold IntKind.wrap; simp [IntKind.bits, IntKind.signed]; omega
  have hn0 : 0 < ns.length := List.length_pos_iff.2 hne
  have hst0 : Il.lastI (fun R => R.say (List.replicate 0 b)) ns = ns := by
    obtain ⟨R, h1, h2⟩ := lastI_at hne
    rw [h2]
    have e : R.say (List.replicate 0 b) = R := by unfold Il.Rw.say; simp
    rw [e]
    obtain ⟨h3, h4⟩ := List.getElem?_eq_some_iff.1 h1
    conv => rhs; rw [← List.set_getElem_self h3, h4]
  have hstart := Lib.hid (show FS B m0 w0 X k A c v (Il.lastI (fun R => R.say (List.replicate 0 b)) ns) V w ∧ Fr w B (rowsF noM 6 7 8 v (Il.lastI (fun R => R.say (List.replicate 0 b)) ns) V) bx from by rw [hst0]; exact ⟨h0, hbx⟩)
  obtain ⟨nl, hnl2⟩ : ∃ nl, nl = ns.length := ⟨_, rfl⟩
  rw [← hnl2] at hv hnl hn0
  have hlast := fun w => plast_any g nl cp hn0 (by omega) w
  replace hexit := Lib.hid hexit
  replace hpan := Lib.hid hpan
  replace hbc := Lib.hid hbc
  replace hne := Lib.hid hne
  replace hnl2 := Lib.hid hnl2
  have hwj := Lib.hid (fun j (_ : j ≤ L) => (show Il.wts (Il.lastI (fun R => R.say (List.replicate j b)) ns) ≤ 2000000000 from by
    have := Il.wts_lastI (f := fun R => R.say (List.replicate j b)) (k := j) (fun R => by rw [Il.Rw.wt_say, List.length_replicate]; exact Nat.le_refl _) ns
    omega))
  replace hv := Lib.hid hv
  clear h0 hbx hst0
  conv => arg 2; arg 1; whnf
  rw [hv.out]
  go_loopw [60] (fun a wr => ∃ (j : Nat) (V' : List V3), a = .int .i64 (j : Int) ∧ j ≤ L ∧ Hid (FS B m0 w0 X k A c v (Il.lastI (fun R => R.say (List.replicate j b)) ns) V' wr) ∧ Hid (Fr wr B (rowsF noM 6 7 8 v (Il.lastI (fun R => R.say (List.replicate j b)) ns) V') bx) ∧ Hid (wr.heap[bx]? = some (.cells #[.int .u8 (b.toNat : Int), .int .i64 rn, .bool ro, .bool rc] 96)) ∧ B ≤ wr.heap.size) (fun a _ => L - (intOf a).toNat)
  case atStart => exact ⟨0, V, rfl, by omega, Lib.hid hstart.out.1, Lib.hid hstart.out.2, hbc, hB⟩
  case round =>
    clear hstart hbc
    obtain ⟨j, V', rfl, hj, hF, hfb, hbb, hBr⟩ := hrel
    by_cases hlt : j < L
    · have hjn : Il.lastI (fun R => R.say (List.replicate j b)) ns ≠ [] := Il.lastI_ne hne.out
      obtain ⟨R, hR1, hR2⟩ := lastI_at hjn
      have hjl : (Il.lastI (fun R => R.say (List.replicate j b)) ns).length = nl := by rw [Il.lastI_len, hnl2.out]
      have hnext : Il.lastI (fun R => R.say [b]) (Il.lastI (fun R => R.say (List.replicate j b)) ns) = Il.lastI (fun R => R.say (List.replicate (j + 1) b)) ns := by
        rw [Il.lastI_lastI]
        congr 1
        funext R
        unfold Il.Rw.say
        simp [List.replicate_succ']
      have hwm := Il.wts_mem (List.mem_of_getElem? hR1)
      have hwj1 := hwj.out j hj
      rw [hjl] at hR1 hR2
      obtain ⟨x1, y1, z1, e1, q1, i1⟩ := hF.out.rs.look ⟨by decide, by decide, by decide⟩ hR1
      have hc1 := hF.out.rs.cn (i := nl - 1) (g := g) (cp := cp) (by rw [hjl]; exact hv.out) (by rw [hjl]; omega)
      have hRp : R.p.length ≤ 2000000000 := by unfold Il.Rw.wt at hwm; omega
      have hcall := Lib.hid (psayRune_any (ksAt_ok ⟨by decide, by decide, by decide⟩ (nl - 1)) hc1 q1 hBr b.toNat (by unfold Ru.vr; omega) (by omega))
      rw [enc_low hb] at hcall
      have hturn := Lib.hid (fun (w' : World) (vp' : Value) t => hF.out.rs.turned (w' := w') (R' := R.say [b]) (x := x1) (y := vp') (z := z1) ⟨by decide, by decide, by decide⟩ hR1 e1 t (t.kids i1))
      have hS : (fun u : World => u.heap[bx]? = some (.cells #[.int .u8 (b.toNat : Int), .int .i64 rn, .bool ro, .bool rc] 96)) wr.drew := hbb.out
      have hcalld : Hid (Calls Tryz.prog 48 #[.pointer (some ⟨g, (nl - 1) * 2, none⟩), .int .i32 (b.toNat : Int)] wr.drew fun e w' => e = .returned (.tuple #[]) ∧ ∃ V2, FS B m0 w0 X k A c v (Il.lastI (fun R => R.say (List.replicate (j + 1) b)) ns) V2 w' ∧ Fr w' B (rowsF noM 6 7 8 v (Il.lastI (fun R => R.say (List.replicate (j + 1) b)) ns) V2) bx ∧ w'.heap[bx]? = some (.cells #[.int .u8 (b.toNat : Int), .int .i64 rn, .bool ro, .bool rc] 96) ∧ B ≤ w'.heap.size) := Lib.hid (by
        have hq : Hq wr.drew B (rowm (rowsF noM 6 7 8 v (Il.lastI (fun R => R.say (List.replicate j b)) ns) V') (ksAt 6 7 8 (nl - 1)) (cAt v (Il.lastI (fun R => R.say (List.replicate j b)) ns).length V' (nl - 1)) R x1 y1 z1) := q1.drewT.hp
        have := psayRune_any (ksAt_ok ⟨by decide, by decide, by decide⟩ (nl - 1)) hc1 hq hBr b.toNat (by unfold Ru.vr; omega) (by omega)
        rw [enc_low hb] at this
        refine this.mono ?_
        rintro e w3 ⟨rfl, vp', t⟩
        obtain ⟨hR3, hT3⟩ := hturn.out w3 vp' (q1.drewT.trans t)
        rw [← hR2 (fun R => R.say [b]), hnext] at hR3 hT3
        obtain ⟨f1, f2⟩ := hT3.fre _ hfb.out
        have hF2 : FS B m0 w0 X k A c v (Il.lastI (fun R => R.say (List.replicate (j + 1) b)) ns) (V'.set (nl - 1) (x1, vp', z1)) w3 :=
          ⟨hR3, hT3.rowI hF.out.pr, hF.out.cap, hF.out.kl, by
            rw [← hnext]
            exact Il.lastI_mem hF.out.ok fun R hR => Il.Rw.ok_say hR (Il.v8_low hb 1), hF.out.tu.trans hT3⟩
        exact ⟨rfl, _, hF2, f2, f1.trans hbb.out, Nat.le_trans hBr hT3.bel.size⟩)
      clear hturn hcall q1 i1 hc1 hwm hR1 hF hfb e1
      replace hnext := Lib.hid hnext
      replace hjl := Lib.hid hjl
      replace hR2 := Lib.hid hR2
      replace hbb := Lib.hid hbb.out
      clear hexit
      obtain ⟨nm, hnm⟩ : ∃ nm, nm = (nl - 1) * 2 := ⟨_, rfl⟩
      rw [← hnm] at hlast hcalld
      clear hnm
      go_upto_region 14 with fail
      refine wp_region_tree (.rd 0 (.rd 2 (.rd 3 (.rd 4 (.mk 1 (.mk 5 .fin)))))) (fun u : World => u.heap[bx]? = some (.cells #[.int .u8 (b.toNat : Int), .int .i64 rn, .bool ro, .bool rc] 96)) hS (by kernel_rfl) (by kernel_rfl) (by kernel_rfl) (fun _ _ d _ _ h => by cases d <;> exact hpan.out _ _ _ _ _ h) ?_
      (first | refine wpT_move rfl ?_ | (refine wpT_rd rfl ?_; intro K hK; go_simp; refine hK _ _ _ ?_; clear hK K))
      (first | refine wpT_move rfl ?_ | (refine wpT_rd rfl ?_; intro K hK; go_simp; refine hK _ _ _ ?_; clear hK K))
      refine wpT_read (.int .u8 (b.toNat : Int)) rfl rfl hS (fun u hu => by
        have h1 := blk_cell (j := 0) hu
        go_simp) ?_
      (first | refine wpT_move rfl ?_ | (refine wpT_rd rfl ?_; intro K hK; go_simp; refine hK _ _ _ ?_; clear hK K))
      refine wpT_mk rfl ?_
      intro K hK
      go_simp
      refine (hlast _).mono ?_
      rintro e w2 ⟨rfl, rfl⟩
      refine ⟨_, hS, fun _ h => h, hK _ _ _ ?_⟩
      clear hK K
      refine wpT_mk rfl ?_
      intro K hK
      go_simp
      refine hcalld.out.mono ?_
      rintro e w3 ⟨rfl, V2, hF2, hf2, hb2, hB2⟩
      have hS3 : (fun u : World => u.heap[bx]? = some (.cells #[.int .u8 (b.toNat : Int), .int .i64 rn, .bool ro, .bool rc] 96)) w3 := hb2
      refine ⟨_, hS3, fun _ h => h, hK _ _ _ ?_⟩
      clear hK K hS3 hS hcalld hlast
      replace hF2 := Lib.hid hF2
      replace hf2 := Lib.hid hf2
      replace hb2 := Lib.hid hb2
      refine wpT_fin ?_
      go_wp2_with fail
      go_roundw
      case rel => exact ⟨j + 1, V2, by go_num, by omega, hF2, hf2, hb2, hB2⟩
      case measure => simp [intOf]; omega
    · have hjL : j = L := by omega
      subst hjL
      have hx := Lib.hid (fun u60 u61 u62 u63 u64 u65 u66 u67 u68 => hexit.out V' u60 u61 u62 u63 u64 u65 u66 u67 u68 wr hF.out hBr)
      rw [hv.out] at hx
      clear hexit
      go_wp2_with fail
      exact hx.out _ _ _ _ _ _ _ _ _
end Go.Proofs.YtkfhkfagmokjpaaGreatDoor

namespace Go.Proofs.YtkfhkfagmokjpaaGreatDoor
open Go.RowKit
attribute [local go_sem] canOp readsAs readUpon

theorem rowsEI : EI Tryz.prog 56 54 2 48 := EI.mk' (z := .agg #[.slice none 0 0, .slice none 0 0]) (by kernel_rfl) (by kernel_rfl) rfl (by omega)
theorem zero_rows (j : Nat) : (Builtin.zeroCells (Value.agg #[.slice none 0 0, .slice none 0 0]).cells j).toList = v3cells (List.replicate j (.slice none 0 0, .slice none 0 0, [])) := by
  apply List.ext_getElem?
  intro i
  have hl : (v3cells (List.replicate j ((.slice none 0 0, .slice none 0 0, []) : V3))).length = j * 2 := by rw [v3cells_len, List.length_replicate]
  have hz : (Builtin.zeroCells (Value.agg #[.slice none 0 0, .slice none 0 0]).cells j).toList.length = j * 2 := by rw [Array.length_toList, size_zeroCells]; rfl
  rcases Nat.lt_or_ge i (j * 2) with h | h
  · have e1 : ∀ u ∈ (Builtin.zeroCells (Value.agg #[.slice none 0 0, .slice none 0 0]).cells j).toList, u = Value.slice none 0 0 := by
      intro u hu
      simp only [Builtin.zeroCells, Array.toList_map, List.mem_map] at hu
      obtain ⟨q, _, rfl⟩ := hu
      have hq : q % 2 = 0 ∨ q % 2 = 1 := by omega
      show (#[Value.slice none 0 0, Value.slice none 0 0])[q % 2]! = _
      rcases hq with e | e <;> rw [e] <;> rfl
    have e2 : ∀ u ∈ v3cells (List.replicate j ((.slice none 0 0, .slice none 0 0, []) : V3)), u = Value.slice none 0 0 := by
      intro u hu
      simp only [v3cells, List.mem_flatMap] at hu
      obtain ⟨x, hx, hu⟩ := hu
      obtain rfl := (List.mem_replicate.1 hx).2
      simpa using hu
    rw [List.getElem?_eq_getElem (by omega), List.getElem?_eq_getElem (by omega), e1 _ (List.getElem_mem _), e2 _ (List.getElem_mem _)]
  · rw [List.getElem?_eq_none (by omega), List.getElem?_eq_none (by omega)]
theorem stk_len (ns : List Il.Rw) : (stk ns).length = ns.length := by simp [stk]
theorem last_form {ns : List Il.Rw} (h : ns ≠ []) : ∃ N R, ns = N ++ [R] := by
  rcases List.eq_nil_or_concat ns with e | ⟨o, y, e⟩
  · exact absurd e h
  · exact ⟨o, y, by rw [e, List.concat_eq_append]⟩
theorem stk_say {ns : List Il.Rw} (h : ns ≠ []) (hok : ∀ R ∈ ns, R.ok) (s : List UInt8) : stk (Il.lastI (fun R => R.say s) ns) = Il.topPut (stk ns) (Il.word s) := by
  obtain ⟨N, R, rfl⟩ := last_form h
  rw [Il.lastI_snoc, stk_one, stk_one, Il.Rw.full_say (hok R (by simp))]; rfl
theorem stk_push (ns : List Il.Rw) (o : Nat) : stk (ns ++ List.replicate o Il.Rw.nil) = List.replicate o [] ++ stk ns := by
  simp [stk, Il.Rw.full_nil]
theorem stk_join {ns : List Il.Rw} (h : ns ≠ []) (hok : ∀ R ∈ ns, R.ok) {v : Il.Rw} (hv : v.ok) : stk (Il.lastI (fun R => R.join v) ns) = Il.topPuts (stk ns) v.full := by
  obtain ⟨N, R, rfl⟩ := last_form h
  rw [Il.lastI_snoc, stk_one, stk_one, (Il.Rw.join_all (hok R (by simp)) hv).2]; rfl
theorem count_next (X : List (Nat × Nat × Nat)) (i : Nat) : (X.countP fun x => decide (x.1 < i + 1)) = (X.countP fun x => decide (x.1 < i)) + Il.opn X i := by
  induction X with
  | nil => rfl
  | cons x X ih =>
    rw [List.countP_cons, List.countP_cons, Il.opn_cons, ih]
    by_cases h1 : x.1 < i
    · rw [if_pos (by simp; omega), if_pos (by simpa using h1), if_neg (by omega)]; omega
    · by_cases h2 : x.1 = i
      · rw [if_pos (by simp; omega), if_neg (by simpa using h1), if_pos h2]; omega
      · rw [if_neg (by simp; omega), if_neg (by simpa using h1), if_neg h2]; omega
theorem opn_drop {X : List (Nat × Nat × Nat)} {k i : Nat} (hg : ∀ x ∈ X, x.1 < x.2.1) (hle : ∀ x ∈ X.take k, x.2.1 ≤ i) : Il.opn (X.drop k) i = Il.opn X i := by
  have e : Il.opn X i = Il.opn (X.take k) i + Il.opn (X.drop k) i := by
    unfold Il.opn
    rw [← List.countP_append, List.take_append_drop]
  have z : Il.opn (X.take k) i = 0 := by
    unfold Il.opn
    rw [List.countP_eq_zero]
    intro x hx
    have := hle x hx
    have := hg x (List.mem_of_mem_take hx)
    simp; omega
  omega
theorem Hq.freed {K K' : Type} {w : World} {B : Nat} {m : K → Option Pa} {m2 : K' → Option Pa} (h : Hq w B m) {k0 : K} {e : TypeId} {s n c : Nat} {A : Option Addr} {xs : List Value} (h0 : m k0 = some (.row e s (.slice A n c) n xs)) (hs : ∀ q x, m2 q = some x → ∃ k, k ≠ k0 ∧ m k = some x) : RowI w (Fr w B m2) s A n xs := by
  have ho : w.ownsRow B e s (.slice A n c) n xs := h.holds _ _ h0
  have hr := own_rowI ho
  refine ⟨hr.1, fun hp => ?_⟩
  obtain ⟨b, o, h1, h2, h3⟩ := hr.2 hp
  refine ⟨b, o, h1, ⟨h2.1, h2.2, fun q x hx hb => ?_⟩, h3⟩
  obtain ⟨k, hk, hk2⟩ := hs q x hx
  exact hk (h.apart _ _ _ _ b hk2 h0 hb (by show (Value.slice A n c).ownBlock = some b; rw [h1]; rfl))
theorem FS.ext {B : Nat} {m0 : Ky → Option Pa} {w0 : World} {X : List (Nat × Nat × Nat)} {k : Nat} {A : Option Addr} {c : Nat} {v : Value} {ns : List Il.Rw} {V : List V3} {w w' : World} (h : FS B m0 w0 X k A c v ns V w) (hB : B ≤ w.heap.size) (hb : Below w.heap.size w w') : FS B m0 w0 X k A c v ns V w' := by
  have t := h.rs.hp.call hB hb
  exact ⟨h.rs.ext hB hb, t.rowI h.pr, h.cap, h.kl, h.ok, h.tu.trans t⟩
def cts (l : List Em.R) : Nat := (l.map fun r => r.n.toNat).sum
end Go.Proofs.YtkfhkfagmokjpaaGreatDoor

namespace Go.Proofs.YtkfhkfagmokjpaaGreatDoor
open Go.RowKit

/-- what is read while rows are laid into one another: runs, opens, left, the flat rows but the first -/
structure FR (w : World) (Q : Nat → Prop) (runs : List Em.R) (AR : Option Addr) (g1 g2 : Nat) (O L : List Nat) (AF : Option Addr) (rs : List Il.Rw) (V : List V3) : Prop where
  rn : RowI w Q 4 AR runs.length (acells runs)
  o : RowI w Q 1 (some ⟨g1, 0, none⟩) runs.length (lcells O)
  l : RowI w Q 1 (some ⟨g2, 0, none⟩) runs.length (lcells L)
  flat : RowI w Q 2 AF rs.length (v3cells V)
  rows : ∀ i, 1 ≤ i → ∀ (h : i < rs.length) (h' : i < V.length), ∃ A c Ap cp, V[i].1 = .slice A rs[i].l.length c ∧ V[i].2.1 = .slice Ap rs[i].p.length cp ∧ RowI w Q 4 A rs[i].l.length V[i].2.2.flatten ∧ ICs w Q rs[i].l V[i].2.2 ∧ RowI w Q 1 Ap rs[i].p.length (bcells rs[i].p)
theorem FR.turn {K K' : Type} {B : Nat} {m : K → Option Pa} {m' : K' → Option Pa} {w w' : World} {runs : List Em.R} {AR : Option Addr} {g1 g2 : Nat} {O L : List Nat} {AF : Option Addr} {rs : List Il.Rw} {V : List V3} (t : Turn B m w m' w') (h : FR w (Fr w B m) runs AR g1 g2 O L AF rs V) : FR w' (Fr w' B m') runs AR g1 g2 O L AF rs V :=
  ⟨t.rowI h.rn, t.rowI h.o, t.rowI h.l, t.rowI h.flat, fun i h1 h2 h3 => by
    obtain ⟨A, c, Ap, cp, e1, e2, e3, e4, e5⟩ := h.rows i h1 h2 h3
    exact ⟨A, c, Ap, cp, e1, e2, t.rowI e3, t.kids e4, t.rowI e5⟩⟩
theorem v3_at {V : List V3} {i : Nat} (h : i < V.length) : (v3cells V)[i * 2]? = some V[i].1 ∧ (v3cells V)[i * 2 + 1]? = some V[i].2.1 := by
  have := fun j (hj : j < 2) => flat_at (f := fun x : V3 => [x.1, x.2.1]) (m := 2) (fun _ => rfl) V i j h hj
  exact ⟨this 0 (by omega), this 1 (by omega)⟩

/-- a turn of a family with one part fewer -/
theorem nest_start {m : Ky → Option Pa} {vF : Value} {rs : List Il.Rw} {V : List V3} {w : World} {B : Nat} (h : RS w B m 3 4 5 vF rs V) (h1 : 0 < rs.length) {AR : Option Addr} {cR : Nat} {runs : List Em.R} (hruns : m (1, 0) = some (.row 96 4 (.slice AR runs.length cR) runs.length (acells runs))) :
    ∃ (m2 : Ky → Option Pa) (R0 : Il.Rw) (x0 : V3), rs[0]? = some R0 ∧ V[0]? = some x0 ∧ Turn B (rowsF m 3 4 5 vF rs V) w m2 w ∧ m2 (6, 0) = none ∧ m2 (7, 0) = some (rinl R0 x0.1 x0.2.2) ∧ m2 (8, 0) = some (rpln R0 x0.2.1) ∧ (∀ q, q ≠ (7, 0) → q ≠ (8, 0) → m2 q = none) ∧ ICs w (Fr w B m2) R0.l x0.2.2 ∧
      RowI w (Fr w B m2) 4 AR runs.length (acells runs) ∧ ∃ AF cF, vF = .slice AF rs.length cF ∧ RowI w (Fr w B m2) 2 AF rs.length (v3cells V) ∧ ∀ i, 1 ≤ i → ∀ (h : i < rs.length) (h' : i < V.length), ∃ A c Ap cp, V[i].1 = .slice A rs[i].l.length c ∧ V[i].2.1 = .slice Ap rs[i].p.length cp ∧ RowI w (Fr w B m2) 4 A rs[i].l.length V[i].2.2.flatten ∧ ICs w (Fr w B m2) rs[i].l V[i].2.2 ∧ RowI w (Fr w B m2) 1 Ap rs[i].p.length (bcells rs[i].p) := by
  have hV : 0 < V.length := by rw [h.len]; exact h1
  obtain ⟨g, cF, hvF, _, _, _⟩ := h.slice h1
  have k4 : ∀ i (hi : i < rs.length) (hi' : i < V.length), rowsF m 3 4 5 vF rs V (4, i) = some (rinl rs[i] V[i].1 V[i].2.2) := fun i hi hi' => by
    unfold rowsF atR
    rw [if_neg (by simp), if_pos rfl, List.getElem?_eq_getElem hi, List.getElem?_eq_getElem hi']
  have k5 : ∀ i (hi : i < rs.length) (hi' : i < V.length), rowsF m 3 4 5 vF rs V (5, i) = some (rpln rs[i] V[i].2.1) := fun i hi hi' => by
    unfold rowsF atR
    rw [if_neg (by simp), if_neg (by simp), if_pos rfl, List.getElem?_eq_getElem hi, List.getElem?_eq_getElem hi']
  have k1 : rowsF m 3 4 5 vF rs V (1, 0) = some (.row 96 4 (.slice AR runs.length cR) runs.length (acells runs)) := by
    unfold rowsF
    rw [if_neg (by simp), if_neg (by simp), if_neg (by simp)]; exact hruns
  obtain ⟨m2, hm2⟩ : ∃ m2 : Ky → Option Pa, m2 = fun q => if q = (7, 0) then some (rinl rs[0] V[0].1 V[0].2.2) else if q = (8, 0) then some (rpln rs[0] V[0].2.1) else none := ⟨_, rfl⟩
  have hsub : ∀ q x, m2 q = some x → (q = (7, 0) ∧ rowsF m 3 4 5 vF rs V (4, 0) = some x) ∨ (q = (8, 0) ∧ rowsF m 3 4 5 vF rs V (5, 0) = some x) := fun q x hx => by
    rw [hm2] at hx
    simp only at hx
    by_cases h7 : q = (7, 0)
    · rw [if_pos h7] at hx; exact .inl ⟨h7, by rw [k4 0 h1 hV]; exact hx⟩
    · rw [if_neg h7] at hx
      by_cases h8 : q = (8, 0)
      · rw [if_pos h8] at hx; exact .inr ⟨h8, by rw [k5 0 h1 hV]; exact hx⟩
      · rw [if_neg h8] at hx; cases hx
  have t : Turn B (rowsF m 3 4 5 vF rs V) w m2 w := h.hp.tsub (fun q => if q = (7, 0) then (4, 0) else (5, 0)) (fun q x hx => .inl (by
      rcases hsub q x hx with ⟨rfl, h2⟩ | ⟨rfl, h2⟩
      · simpa using h2
      · simpa using h2)) (fun q q' x x' hx hx' _ e => by
      rcases hsub q x hx with ⟨rfl, _⟩ | ⟨rfl, _⟩ <;> rcases hsub q' x' hx' with ⟨rfl, _⟩ | ⟨rfl, _⟩ <;> simp at e ⊢)
  have free : ∀ k0, k0 ≠ (4, 0) → k0 ≠ (5, 0) → ∀ q x, m2 q = some x → ∃ k, k ≠ k0 ∧ rowsF m 3 4 5 vF rs V k = some x := fun k0 n1 n2 q x hx => by
    rcases hsub q x hx with ⟨_, h2⟩ | ⟨_, h2⟩
    · exact ⟨_, Ne.symm n1, h2⟩
    · exact ⟨_, Ne.symm n2, h2⟩
  refine ⟨m2, rs[0], V[0], List.getElem?_eq_getElem h1, List.getElem?_eq_getElem hV, t, by rw [hm2]; rfl, by rw [hm2]; rfl, by rw [hm2]; rfl, fun q n1 n2 => by rw [hm2]; simp only; rw [if_neg n1, if_neg n2], t.kids (h.kids 0 h1 hV), h.hp.freed k1 (free _ (by simp) (by simp)), some ⟨g, 0, none⟩, cF, hvF, ?_, fun i hi1 hi hi' => ?_⟩
  · have ka := rowsF_arr m 3 4 5 vF rs V
    rw [hvF] at ka
    rw [hvF] at h free
    exact h.hp.freed ka (free _ (by simp) (by simp))
  · have o4 : w.ownsRow B 41 4 V[i].1 rs[i].l.length V[i].2.2.flatten := h.hp.holds _ _ (k4 i hi hi')
    have o5 : w.ownsRow B 5 1 V[i].2.1 rs[i].p.length (bcells rs[i].p) := h.hp.holds _ _ (k5 i hi hi')
    obtain ⟨A, c, e1, _⟩ := own_shape o4
    obtain ⟨Ap, cp, e2, _⟩ := own_shape o5
    have k4' := k4 i hi hi'
    have k5' := k5 i hi hi'
    unfold rinl at k4'
    unfold rpln at k5'
    rw [e1] at k4'
    rw [e2] at k5'
    exact ⟨A, c, Ap, cp, e1, e2, h.hp.freed k4' (free _ (by simp; omega) (by simp)), t.kids (h.kids i hi hi'), h.hp.freed k5' (free _ (by simp) (by simp; omega))⟩
/-- the first of the rows that stand in one another -/
theorem nest_first {m2 : Ky → Option Pa} {R0 : Il.Rw} {x0 : V3} {w : World} {B : Nat} (hp : Hq w B m2) (hB : B ≤ w.heap.size) (h6 : m2 (6, 0) = none) (h7 : m2 (7, 0) = some (rinl R0 x0.1 x0.2.2)) (h8 : m2 (8, 0) = some (rpln R0 x0.2.1)) (hno : ∀ q, q ≠ (7, 0) → q ≠ (8, 0) → m2 q = none) (hI : ICs w (Fr w B m2) R0.l x0.2.2) :
    Turn B m2 w (rowsF noM 6 7 8 (.slice (some ⟨w.heap.size, 0, none⟩) 1 1) [R0] [x0]) (w.alloc (.cells #[x0.1, x0.2.1] 54)) ∧ RS (w.alloc (.cells #[x0.1, x0.2.1] 54)) B noM 6 7 8 (.slice (some ⟨w.heap.size, 0, none⟩) 1 1) [R0] [x0] := by
  have t := hp.tmore (k := (6, 0)) (w' := w.alloc (.cells #[x0.1, x0.2.1] 54)) (.row 54 2 (.slice (some ⟨w.heap.size, 0, none⟩) 1 1) 1 [x0.1, x0.2.1]) h6 (ext_alloc w _)
    (World.ownsRow_lit w #[x0.1, x0.2.1] 1 hB (by unfold maxLen; omega) rfl) (fun g hg => by
      have e : some w.heap.size = some g := hg
      injection e with e; omega) hB
  have e : uq m2 (6, 0) (.row 54 2 (.slice (some ⟨w.heap.size, 0, none⟩) 1 1) 1 [x0.1, x0.2.1]) = rowsF noM 6 7 8 (.slice (some ⟨w.heap.size, 0, none⟩) 1 1) [R0] [x0] := by
    funext q
    obtain ⟨q1, q2⟩ := q
    unfold uq rowsF
    by_cases h : (q1, q2) = (6, 0)
    · rw [if_pos h, if_pos h]; rfl
    · rw [if_neg h, if_neg h]
      simp only
      by_cases h1 : q1 = 7
      · subst h1
        rw [if_pos rfl]
        rcases q2 with _ | q2
        · rw [h7]; rfl
        · rw [hno _ (by simp) (by simp)]; rfl
      · rw [if_neg h1]
        by_cases h2 : q1 = 8
        · subst h2
          rw [if_pos rfl]
          rcases q2 with _ | q2
          · rw [h8]; rfl
          · rw [hno _ (by simp) (by simp)]; rfl
        · rw [if_neg h2, hno _ (by simp [h1]) (by simp [h2])]
  rw [e] at t
  refine ⟨t, t.hp, rfl, fun i hi hi' => ?_⟩
  obtain rfl : i = 0 := by simpa using hi
  exact t.kids hI
end Go.Proofs.YtkfhkfagmokjpaaGreatDoor

namespace Go.Proofs.YtkfhkfagmokjpaaGreatDoor
open Go.RowKit
attribute [local go_sem] canOp readsAs readUpon

theorem zero_one : ∀ u ∈ (Value.agg #[.slice none 0 0, .slice none 0 0]).cells.toList, u.oneCell' = true := by
  intro u hu
  have : u = .slice none 0 0 ∨ u = .slice none 0 0 := by simpa [Value.cells] using hu
  rcases this with rfl | rfl <;> rfl
set_option maxHeartbeats 16000000 in
set_option maxRecDepth 100000 in
theorem pfold_some {m : Ky → Option Pa} {vF : Value} {rs : List Il.Rw} {V : List V3} {w : World} {B : Nat} {AR : Option Addr} {cR : Nat} (runs : List Em.R) (T : List Il.In) (h : RS w B m 3 4 5 vF rs V) (hB : B ≤ w.heap.size) (hruns : m (1, 0) = some (.row 96 4 (.slice AR runs.length cR) runs.length (acells runs)))
    (hlr : rs.length = runs.length + 1) (hn : runs.length ≤ 4000000) (hn1 : 1 ≤ runs.length) (hok : ∀ R ∈ rs, R.ok) (hch : ∀ r ∈ runs, r.ch.toNat < 128 ∧ 0 ≤ r.n ∧ r.n ≤ 1000000000) (hwt : Il.wts rs ≤ 64000000) (hct : cts runs ≤ 4000000)
    (hT : ∃ R Rs, rs = R :: Rs ∧ Il.mrows (Il.lfin runs) (fun r => (Em.get runs r).ch) 0 (Rs.map Il.Rw.full) (Em.pairs runs, [R.full]) = ([], [T])) :
    Calls Tryz.prog 23 #[vF, .slice AR runs.length cR] w fun e w' => ∃ v, e = .returned v ∧ ∃ css, w'.ownsRow B 41 4 v T.length css.flatten ∧ ICs w' (fun b => B ≤ b ∧ b < w'.heap.size) T css ∧ Below B w w' := by
  obtain ⟨m2, R0, x0, hR0, hx0, t2, h6, h7, h8, hno, hI0, hrun2, AF, cF, rfl, hflat2, hrows2⟩ := nest_start h (by omega) hruns
  have hX := Em.bd_pairs runs
  have hinv := Em.inv_pairs runs
  obtain ⟨X, hXe⟩ : ∃ X, X = Em.pairs runs := ⟨_, rfl⟩
  have hgood : ∀ x ∈ X, x.1 < x.2.1 ∧ x.2.1 ≤ 4000000 ∧ x.2.2 ≤ 2 := fun x hx => by
    have := hinv.good x (by rw [hXe] at hx; exact hx)
    exact ⟨this.1, by omega, this.2.2.2.2.1⟩
  have hgood2 : ∀ x ∈ X, x.1 < runs.length ∧ x.2.1 < runs.length ∧ x.1 ≠ x.2.1 ∧ x.2.2 ≤ 2 := fun x hx => by
    have := hinv.good x (by rw [hXe] at hx; exact hx)
    exact ⟨by omega, this.2.2.1, by omega, this.2.2.2.2.1⟩
  have hused : ∀ i, i < runs.length → Em.used X i ≤ Il.cnt runs i := fun i hi => by
    have h1 := hinv.sum i hi
    have h2 := (Il.cnt_held (fun r hr => (hch r hr).2) hi).1
    rw [hXe]
    unfold Em.pairs
    omega
  have hmatch := fun w hw => pmatch_any runs AR cR w hw hn
  rw [← hXe] at hX hT hmatch
  have hrowR : Row w w.heap.size 4 AR runs.length (acells runs) := rowI_row hrun2 (fun b hb => hb.2.1)
  have hlfin : ∀ i, Il.cnt runs i - Em.used X i = Il.lfin runs i := fun i => by rw [hXe]; rfl
  have hpos : ∀ r ∈ runs, 0 ≤ r.n ∧ r.n ≤ 1000000000 := fun r hr => (hch r hr).2
  have hVl := h.len
  obtain ⟨gF, cF', hvF, _, _, hgF⟩ := h.slice (by omega)
  injection hvF with hAF _ _
  subst hAF
  have c00 := (hflat2.2 (by omega))
  obtain ⟨bF, oF, hbo, _, hcF⟩ := c00
  injection hbo with hbo
  injection hbo with e1 e2
  subst e1 e2
  have y0 : w.cell? ⟨gF, 0, none⟩ = some x0.1 := by
    obtain ⟨hv1, hv2⟩ := List.getElem?_eq_some_iff.1 hx0
    have := hcF 0 x0.1 (by rw [← hv2]; exact (v3_at hv1).1)
    simpa using this
  have y1 : w.cell? ⟨gF, 1, none⟩ = some x0.2.1 := by
    obtain ⟨hv1, hv2⟩ := List.getElem?_eq_some_iff.1 hx0
    have := hcF 1 x0.2.1 (by rw [← hv2]; exact (v3_at hv1).2)
    simpa using this
  replace hcF := Lib.hid hcF
  replace t2 := Lib.hid t2
  replace hI0 := Lib.hid hI0
  replace hrun2 := Lib.hid hrun2
  replace hflat2 := Lib.hid hflat2
  replace hrows2 := Lib.hid hrows2
  replace hno := Lib.hid hno
  replace h6 := Lib.hid h6
  replace h7 := Lib.hid h7
  replace h8 := Lib.hid h8
  replace hT := Lib.hid hT
  replace hmatch := Lib.hid hmatch
  replace hgood := Lib.hid hgood
  replace hgood2 := Lib.hid hgood2
  replace hused := Lib.hid hused
  replace hrowR := Lib.hid hrowR
  replace hlfin := Lib.hid hlfin
  replace hpos := Lib.hid hpos
  replace hch := Lib.hid hch
  replace hok := Lib.hid hok
  replace hR0 := Lib.hid hR0
  replace hx0 := Lib.hid hx0
  replace hVl := Lib.hid hVl
  replace hXe := Lib.hid hXe
  replace hinv := Lib.hid hinv
  replace hlr := Lib.hid hlr
  clear h hruns
  obtain ⟨n, hnn⟩ : ∃ n, n = runs.length := ⟨_, rfl⟩
  rw [← hnn] at hn hn1 ⊢
  have hlrn : rs.length = n + 1 := by rw [hlr.out, hnn]
  obtain ⟨nf, hnf⟩ : ∃ nf, nf = rs.length := ⟨_, rfl⟩
  rw [← hnf] at hlrn ⊢
  replace hnn := Lib.hid hnn
  replace hnf := Lib.hid hnf
  have hn0 : ((n : Int) == 0) = false := by simp; omega
  have hi0 : (0 : Int) < (nf : Int) := by omega
  go_enter Tryz.func23, Tryz.ntmps23
  go_upto_region 3 with fail
  go_wp2_with fail
  rw [hnn.out]
  refine (hmatch.out _ hrowR.out).mono ?_
  rintro e w1 ⟨⟨vp, rfl, hop⟩, hb1⟩
  obtain ⟨A5, c5, rfl, hc5⟩ := own_shape hop
  have hz1 := hb1.size
  have hrow1 := Lib.hid (hrowR.out.ext hb1)
  have hpr1 := own_rowI hop
  have hrowX := Lib.hid (Row.own hop)
  have hsh := Lib.hid (pshares_any runs X AR cR A5 c5 w1 hrow1.out hrowX.out (by have := hnn.out; omega) (by have := hnn.out; omega) hgood2.out hpos.out hused.out)
  rw [← hnn.out] at hsh
  rw [← hnn.out]
  have y0' := (hb1.cell (p := ⟨gF, 0, none⟩) hgF).trans y0
  have y1' := (hb1.cell (p := ⟨gF, 1, none⟩) hgF).trans y1
  replace hpr1 := Lib.hid hpr1
  replace hb1 := Lib.hid hb1
  clear hop y0 y1
  go_wp2_with fail
  refine hsh.out.mono ?_
  rintro e w3 ⟨g1, g2, O, L, rfl, hTw, hO, hL, hb3⟩
  have hb13 := ext_trans hb1.out hb3
  have z0 := (hb3.cell (p := ⟨gF, 0, none⟩) (Nat.lt_of_lt_of_le hgF hz1)).trans y0'
  have z1 := (hb3.cell (p := ⟨gF, 1, none⟩) (Nat.lt_of_lt_of_le hgF hz1)).trans y1'
  have hz3 := hb13.size
  have t3 := t2.out.hp.call hB hb13
  have hB3 := Nat.le_trans hB hz3
  obtain ⟨t4, hRS4⟩ := nest_first t3.hp hB3 h6.out h7.out h8.out hno.out (t3.kids hI0.out)
  have tot := Lib.hid (t2.out.trans (t3.trans t4))
  have hnew := fun b (h1 : w.heap.size ≤ b) (h2 : b < w3.heap.size) => Hq.new (w' := w3) t2.out.hp hB h1 h2
  have hpr3 := t4.rowI (hpr1.out.frame (w' := w3) (Q' := Fr w3 B m2) (fun b hb => hb3.block b hb.2) (fun b hb => hnew b hb.1 (Nat.lt_of_lt_of_le hb.2 hb3.size)))
  have hO3 := t4.rowI ((own_rowI hTw.o).frame (w' := w3) (Q' := Fr w3 B m2) (fun _ _ => rfl) (fun b hb => hnew b (by omega) hb.2))
  have hL3 := t4.rowI ((own_rowI hTw.l).frame (w' := w3) (Q' := Fr w3 B m2) (fun _ _ => rfl) (fun b hb => hnew b (by omega) hb.2))
  have hfr4 := Lib.hid (show FR _ _ runs AR g1 g2 O L (some ⟨gF, 0, none⟩) rs V from ⟨t4.rowI (t3.rowI hrun2.out), by rw [← hnn.out]; exact hO3, by rw [← hnn.out]; exact hL3, t4.rowI (t3.rowI hflat2.out), fun i a b c => by
    obtain ⟨A, c', Ap, cp, e1, e2, e3, e4, e5⟩ := hrows2.out i a b c
    exact ⟨A, c', Ap, cp, e1, e2, t4.rowI (t3.rowI e3), t4.kids (t3.kids e4), t4.rowI (t3.rowI e5)⟩⟩)
  have hok0 : R0.ok := hok.out R0 (List.mem_of_getElem? hR0.out)
  have hFS0 := Lib.hid (show FS B (rowsF noM 6 7 8 (.slice (some ⟨w3.heap.size, 0, none⟩) 1 1) [R0] [x0]) (w3.alloc (.cells #[x0.1, x0.2.1] 54)) X 0 A5 c5 (.slice (some ⟨w3.heap.size, 0, none⟩) 1 1) [R0] [x0] (w3.alloc (.cells #[x0.1, x0.2.1] 54)) from
    ⟨hRS4, by simpa using hpr3, by simpa using hc5, Nat.zero_le _, fun R hR => by obtain rfl := List.mem_singleton.1 hR; exact hok0, hRS4.hp.refl⟩)
  replace hO := Lib.hid hO
  replace hL := Lib.hid hL
  have hTl1 := Lib.hid hTw.ol
  have hTl2 := Lib.hid hTw.ll
  replace hTw := Lib.hid hTw
  replace hb13 := Lib.hid hb13
  replace hnew := Lib.hid hnew
  replace hok0 := Lib.hid hok0
  replace hRS4 := Lib.hid hRS4
  clear hpr3 hO3 hL3 t3 t4 hb3 y0' y1' hpr1 hsh hb1
  go_wp2_with fail
  obtain ⟨w4, hw4⟩ : ∃ w4, w4 = w3.alloc (.cells #[x0.1, x0.2.1] 54) := ⟨_, rfl⟩
  obtain ⟨gN, hgN⟩ : ∃ g, g = w3.heap.size := ⟨_, rfl⟩
  rw [← hw4, ← hgN] at tot hfr4 hFS0 ⊢
  have hB4 : B ≤ w4.heap.size := by rw [hw4]; simp; omega
  clear hw4 hgN hRS4 z0 z1 hnew hTw hb13
  obtain ⟨m4, hm4⟩ : ∃ m4, m4 = rowsF noM 6 7 8 (.slice (some ⟨gN, 0, none⟩) 1 1) [R0] [x0] := ⟨_, rfl⟩
  have hFS1 : Hid (FS B m4 w4 X 0 A5 c5 (.slice (some ⟨gN, 0, none⟩) 1 1) [R0] [x0] w4) := by rw [hm4]; exact hFS0
  rw [← hm4] at tot hfr4
  clear hm4 hFS0
  obtain ⟨M, hM⟩ : ∃ M, M = 1000000000 := ⟨_, rfl⟩
  have hMle : M ≤ 1000000000 := by omega
  have hX4 : X.length ≤ 400000000 := by have := hnn.out; omega
  have hstart : Hid (Il.mrows (Il.lfin runs) (fun r => (Em.get runs r).ch) 0 ((rs.drop 1).map Il.Rw.full) (X.drop 0, stk [R0]) = ([], [T])) ∧ Il.wts [R0] + 2 * (X.length - 0) + 2 * Il.wts (rs.drop 1) + cts (runs.drop 0) ≤ M := by
    obtain ⟨R, Rs, e1, e2⟩ := hT.out
    have e3 : R = R0 := by have := hR0.out; rw [e1] at this; simpa using this
    subst e3
    have e4 : Il.wts rs = R.wt + Il.wts Rs := by rw [e1, Il.wts_cons]
    have e5 : Il.wts [R] = R.wt := by simp [Il.wts]
    refine ⟨Lib.hid (by rw [e1]; exact e2), ?_⟩
    rw [e1, List.drop_one, List.tail_cons, List.drop_zero, e5]
    have := hnn.out
    omega
  obtain ⟨hmean0, hpot0⟩ := hstart
  replace hM := Lib.hid hM
  replace hX := Lib.hid hX
  replace hrowX := Lib.hid hrowX
  go_loopw [5, 8, 31] (fun a b u wr => ∃ (i k : Nat) (A : Option Addr) (c : Nat) (v : Value) (ns : List Il.Rw) (V' : List V3), a = .slice A (X.length - k) c ∧ b = v ∧ u = .int .i64 (i : Int) ∧ i ≤ n ∧ Hid (FS B m4 w4 X k A c v ns V' wr) ∧ Hid (Il.mrows (Il.lfin runs) (fun r => (Em.get runs r).ch) i ((rs.drop (i + 1)).map Il.Rw.full) (X.drop k, stk ns) = ([], [T])) ∧ Hid (ns.length + k = 1 + X.countP fun x => decide (x.1 < i)) ∧ Hid (∀ x ∈ X.take k, x.2.1 ≤ i) ∧ Il.wts ns + 2 * (X.length - k) + 2 * Il.wts (rs.drop (i + 1)) + cts (runs.drop i) ≤ M ∧ B ≤ wr.heap.size) (fun _ _ u _ => n - (intOf u).toNat)
  case atStart => exact ⟨0, 0, A5, c5, .slice (some ⟨gN, 0, none⟩) 1 1, [R0], [x0], rfl, rfl, rfl, by omega, hFS1, hmean0, Lib.hid (by simp), Lib.hid (by simp), hpot0, hB4⟩
  case round =>
    clear hFS1 hmean0 hpot0
    obtain ⟨i, k, A, c, v, ns, V', rfl, rfl, rfl, hi, hF, hmean, hcnt, hle, hpot, hBr⟩ := hrel
    by_cases hlt : i < n
    · have hir : i < runs.length := by rw [← hnn.out]; exact hlt
      have hfrr := hfr4.out.turn hF.out.tu
      obtain ⟨bR, oR, rfl, hqR, hcR⟩ := hfrr.rn.2 (by omega)
      have hat := fun j (hj : j < 4) => flat_at (f := acell) (m := 4) (fun _ => rfl) runs i j hir hj
      have hgi : Em.get runs i = runs[i] := Em.get_at hir
      have hchi := hch.out _ (List.getElem_mem hir)
      have hdr : runs.drop i = runs[i] :: runs.drop (i + 1) := List.drop_eq_getElem_cons hir
      generalize runs[i] = r at hat hgi hchi hdr
      obtain ⟨ch, rn, ro, rc⟩ := r
      simp only at hchi
      have x0c := hcR _ _ (hat 0 (by omega))
      have x1c := hcR _ _ (hat 1 (by omega))
      have x2c := hcR _ _ (hat 2 (by omega))
      have x3c := hcR _ _ (hat 3 (by omega))
      simp only [← Nat.add_assoc, Nat.add_zero] at x0c x1c x2c x3c
      have hbr : bR < wr.heap.size := hqR.2.1
      have hcti : cts (runs.drop i) = rn.toNat + cts (runs.drop (i + 1)) := by rw [hdr]; rfl
      have hF1 := Lib.hid (hF.out.ext (w' := wr.alloc (.cells #[.int .u8 (ch.toNat : Int), .int .i64 rn, .bool ro, .bool rc] 96)) hBr (ext_alloc wr _))
      have hbx := Lib.hid (Hq.new (w' := wr.alloc (.cells #[.int .u8 (ch.toNat : Int), .int .i64 rn, .bool ro, .bool rc] 96)) hF.out.rs.hp hBr (b := wr.heap.size) (Nat.le_refl _) (by simp))
      have hbc : Hid ((wr.alloc (.cells #[.int .u8 (ch.toNat : Int), .int .i64 rn, .bool ro, .bool rc] 96)).heap[wr.heap.size]? = some (.cells #[.int .u8 (ch.toNat : Int), .int .i64 rn, .bool ro, .bool rc] 96)) := Lib.hid (heap_alloc_new wr _)
      have hBx : B ≤ (wr.alloc (.cells #[.int .u8 (ch.toNat : Int), .int .i64 rn, .bool ro, .bool rc] 96)).heap.size := by simp; omega
      have hlrs : rs.length = runs.length + 1 := hlr.out
      have hi1 : i + 1 < rs.length := by omega
      have hdrs : rs.drop (i + 1) = rs[i + 1] :: rs.drop (i + 2) := List.drop_eq_getElem_cons hi1
      obtain ⟨Rf, hRf⟩ : ∃ Rf, Rf = rs[i + 1] := ⟨_, rfl⟩
      rw [← hRf] at hdrs
      have hwd : Il.wts (rs.drop (i + 1)) = Rf.wt + Il.wts (rs.drop (i + 2)) := by rw [hdrs, Il.wts_cons]
      have hmeanA : Hid (after (Il.lfin runs) (fun r => (Em.get runs r).ch) i Rf.full ((rs.drop (i + 2)).map Il.Rw.full) (X.drop k, stk ns) = ([], [T])) := Lib.hid (by
        have := hmean.out
        rw [hdrs, List.map_cons] at this
        exact this)
      replace hdr := Lib.hid hdr
      replace hat := Lib.hid hat
      replace hfrr := Lib.hid hfrr
      replace hgi := Lib.hid hgi
      replace hdrs := Lib.hid hdrs
      replace hRf := Lib.hid hRf
      replace hlrs := Lib.hid hlrs
      clear hmean hcR hqR hF
      go_wp2_with fail
      obtain ⟨wa, hwa⟩ : ∃ wa, wa = wr.alloc (.cells #[.int .u8 (ch.toNat : Int), .int .i64 rn, .bool ro, .bool rc] 96) := ⟨_, rfl⟩
      obtain ⟨bx, hbxe⟩ : ∃ bx, bx = wr.heap.size := ⟨_, rfl⟩
      rw [← hwa] at hF1 hbx hbc hBx ⊢
      rw [← hbxe] at hbx hbc ⊢
      clear hwa hbxe x0c x1c x2c x3c
      have hFt := hF1.out.tu
      refine fold_close B (rowsF noM 6 7 8 u8 ns V') wa X i (X.countP fun x => decide (x.1 < i)) (M - (2 * Il.wts (rs.drop (i + 1)) + cts (runs.drop i))) (Il.lfin runs) (fun r => (Em.get runs r).ch) Rf.full ((rs.drop (i + 2)).map Il.Rw.full) ([], [T]) hgood.out rfl (by omega) hX4 k A c u8 ns V' wa ⟨hF1.out.rs, hF1.out.pr, hF1.out.cap, hF1.out.kl, hF1.out.ok, hF1.out.rs.hp.refl⟩ hmeanA.out hcnt.out hle.out (by omega) hBx _ _ _ _ _ _ _ _ _ _ _ _ _ _ _ _ _ _ _ _ _ _ _ _ _ _ _ _ _ _ _ _ _ _ _ _ _ _ _ _ _ _ _ _ _ _ _ _ _ _ _ _ _ _ _ _ _ _ _ _ _ _ _ _ _ _ _ _ _ _ _ _ _ _ _ _ _ _ _ _ _ _ _ _ _ ?_
      intro k2 A2 c2 v2 ns2 V2 u36 u37 u38 u39 u40 u41 u42 u43 u44 u45 u46 u47 u48 u49 u50 u51 u52 u53 u54 u55 w5 ⟨hF5, hm5, hc5, hl5, hp5⟩ hstop
      have hT5 := hF5.out.tu
      have hF6 : FS B m4 w4 X k2 A2 c2 v2 ns2 V2 w5 := ⟨hF5.out.rs, hF5.out.pr, hF5.out.cap, hF5.out.kl, hF5.out.ok, hFt.trans hT5⟩
      have hbx5 := hT5.fre _ hbx.out
      have hbc5 := Lib.hid (hbx5.1.trans hbc.out)
      have hfx5 := Lib.hid hbx5.2
      have hB5 := Nat.le_trans hBx hT5.bel.size
      have hfr5 := hfr4.out.turn hF6.tu
      obtain ⟨b2, o2, hb2e, hq2, hc2⟩ := hfr5.l.2 (by omega)
      injection hb2e with hb2e
      injection hb2e with e1 e2
      subst e1 e2
      obtain ⟨b3, o3, hb3e, hq3, hc3⟩ := hfr5.o.2 (by omega)
      injection hb3e with hb3e
      injection hb3e with e1 e2
      subst e1 e2
      have hLi := hL.out i (by have := hTl2.out; omega)
      have hOi := hO.out i (by have := hTl1.out; omega)
      rw [hlfin.out] at hLi
      have xl := hc2 i (.int .i64 ((Il.lfin runs i : Nat) : Int)) (by
        rw [lcells, List.getElem?_map, List.getElem?_eq_getElem (by have := hTl2.out; omega), hLi]; rfl)
      have xo := hc3 i (.int .i64 ((Il.opn X i : Nat) : Int)) (by
        rw [lcells, List.getElem?_map, List.getElem?_eq_getElem (by have := hTl1.out; omega), hOi]; rfl)
      simp only [Nat.zero_add] at xl xo
      have hg1l : g1 < w5.heap.size := hq3.2.1
      have hg2l : g2 < w5.heap.size := hq2.2.1
      have hlf : Il.lfin runs i ≤ rn.toNat := by
        unfold Il.lfin Il.cnt
        rw [hgi.out]
        simp only
        omega
      obtain ⟨lf, hlfe⟩ : ∃ lf, lf = Il.lfin runs i := ⟨_, rfl⟩
      rw [← hlfe] at xl hlf
      obtain ⟨op, hope⟩ : ∃ op, op = Il.opn X i := ⟨_, rfl⟩
      rw [← hope] at xo
      replace hlfe := Lib.hid hlfe
      replace hope := Lib.hid hope
      have hne5 : ns2 ≠ [] := by
        intro e
        have h1 := hm5.out
        unfold after Il.run1 at h1
        rw [hstop, e] at h1
        simp only [stk, List.map_nil, List.reverse_nil] at h1
        have := hc5
        rw [e] at this
        simp only [List.length_nil] at this
        have hcl : X.countP (fun x => decide (x.1 < i)) + 1 ≤ k2 := by omega
        have hkl := hF5.out.kl
        have hcc : (X.countP fun x => decide (x.1 < i)) ≥ (X.take k2).countP (fun x => decide (x.1 < i)) := by
          conv => lhs; rw [← List.take_append_drop k2 X, List.countP_append]
          omega
        have hall : (X.take k2).countP (fun x => decide (x.1 < i)) = (X.take k2).length := by
          rw [List.countP_eq_length]
          intro x hx
          have h1 := hl5.out x hx
          have h2 := (hgood.out x (List.mem_of_mem_take hx)).1
          simp; omega
        rw [List.length_take] at hall
        omega
      clear hc2 hc3 hq2 hq3 hF5 hF1 hbx hbc hbx5 hT5 hFt hLi hOi
      replace hfr5 := Lib.hid hfr5
      replace hF6 := Lib.hid hF6
      replace hne5 := Lib.hid hne5
      replace hstop := Lib.hid hstop
      replace hc5 := Lib.hid hc5
      obtain ⟨gN2, cN2, rfl, _, _, _⟩ := hF6.out.rs.slice (List.length_pos_iff.2 hne5.out)
      go_wp2_with fail
      have hCX : (X.countP fun x => decide (x.1 < i)) ≤ X.length := List.countP_le_length
      refine fold_say B m4 w4 X lf bx ch rn ro rc hchi.1 (by omega) k2 A2 c2 _ ns2 V2 w5 hF6.out hne5.out (by have := hc5.out; omega) (by omega) hB5 hfx5.out hbc5.out _ _ _ _ _ _ _ _ _ _ _ _ _ _ _ _ _ _ _ _ _ _ _ _ _ _ _ _ _ _ _ _ _ _ _ _ _ _ _ _ _ _ _ _ _ _ _ _ _ _ _ _ _ _ _ _ _ _ _ _ _ _ _ _ _ _ _ _ _ _ _ _ _ _ _ _ _ _ _ _ _ _ _ _ (fun _ _ d _ _ h => by cases d <;> exact h) ?_
      intro V3 q60 q61 q62 q63 q64 q65 q66 q67 q68 w6 hF7 hB6
      have hfr6 := hfr4.out.turn hF7.tu
      obtain ⟨b3, o3, hb3e, hq3, hc3⟩ := hfr6.o.2 (by omega)
      injection hb3e with hb3e
      injection hb3e with e1 e2
      subst e1 e2
      have hOi := hO.out i (by have := hTl1.out; omega)
      have xo6 := hc3 i (.int .i64 ((op : Nat) : Int)) (by
        rw [lcells, List.getElem?_map, List.getElem?_eq_getElem (by have := hTl1.out; omega), hOi, ← hope.out]; rfl)
      simp only [Nat.zero_add] at xo6
      have hg16 : g1 < w6.heap.size := hq3.2.1
      have hopX : op ≤ X.length := by rw [hope.out]; unfold Il.opn; exact List.countP_le_length
      obtain ⟨ns3, hns3⟩ : ∃ ns3, ns3 = Il.lastI (fun R => R.say (List.replicate lf ch)) ns2 := ⟨_, rfl⟩
      rw [← hns3] at hF7
      have hl3 : ns3.length = ns2.length := by rw [hns3, Il.lastI_len]
      have hne3 : ns3 ≠ [] := by rw [hns3]; exact Il.lastI_ne hne5.out
      have hw3 : Il.wts ns3 ≤ Il.wts ns2 + lf := by
        rw [hns3]
        exact Il.wts_lastI (fun R => by rw [Il.Rw.wt_say, List.length_replicate]; exact Nat.le_refl _) ns2
      have hstk3 : stk ns3 = Il.topPut (stk ns2) (Il.word (List.replicate lf ch)) := by rw [hns3]; exact stk_say hne5.out hF6.out.ok _
      have harr := hF7.rs.arr
      rw [hl3] at harr
      have hlb : ns2.length ≤ 1000000000 := by have := hc5.out; omega
      have hgrow := Lib.hid (fun (w' : World) (v' : Value) (hg : w6.grownBy w' (Value.slice (some ⟨gN2, 0, none⟩) ns2.length cN2).ownBlock) (ho : w'.ownsRow B 54 2 v' (ns2.length + op) (v3cells V3 ++ v3cells (List.replicate op (.slice none 0 0, .slice none 0 0, [])))) (hat : At w6.heap.size (.slice (some ⟨gN2, 0, none⟩) ns2.length cN2) v') => hF7.rs.grow (w' := w') (v' := v') (j := op) hB6 hg (by rw [hl3]; exact ho) hat)
      replace hF7 := Lib.hid hF7
      replace hstk3 := Lib.hid hstk3
      replace hns3 := Lib.hid hns3
      replace hl3 := Lib.hid hl3
      replace hne3 := Lib.hid hne3
      replace hfr6 := Lib.hid hfr6
      clear hc3 hq3 hOi xl xo hg1l hg2l
      go_upto_region 16 with fail
      go_upto_region 17 with (at_builtin; refine wpList_app_zeros rfl (.tmp 69) (.tmp 73) rfl rowsEI (kn := .i64) Tryz.underlying3 (z := .agg #[.slice none 0 0, .slice none 0 0]) (by kernel_rfl) zero_one rfl harr rfl (by omega) (by omega) hB6 ?_; intro v7 w7 ho7 hg7 hat7)
      rw [zero_rows] at ho7
      obtain ⟨hR8, t8⟩ := hgrow.out w7 v7 hg7.out ho7 hat7.out
      obtain ⟨ns4, hns4⟩ : ∃ ns4, ns4 = ns3 ++ List.replicate op Il.Rw.nil := ⟨_, rfl⟩
      rw [← hns4] at hR8 t8
      have hne4 : ns4 ≠ [] := by rw [hns4]; simp [hne3.out]
      have hl4 : ns4.length = ns2.length + op := by rw [hns4, List.length_append, List.length_replicate, hl3.out]
      have hok4 : ∀ R ∈ ns4, R.ok := fun R hR => by
        rw [hns4] at hR
        rcases List.mem_append.1 hR with h | h
        · exact hF7.out.ok R h
        · rw [(List.mem_replicate.1 h).2]; exact Il.Rw.ok_nil
      have hw4 : Il.wts ns4 = Il.wts ns3 := by
        rw [hns4, Il.wts_append]
        have : ∀ j, Il.wts (List.replicate j Il.Rw.nil) = 0 := fun j => by
          induction j with
          | zero => rfl
          | succ j ih => rw [List.replicate_succ, Il.wts_cons, ih]; rfl
        rw [this]; omega
      obtain ⟨V4, hV4⟩ : ∃ V4, V4 = V3 ++ List.replicate op (.slice none 0 0, .slice none 0 0, []) := ⟨_, rfl⟩
      rw [← hV4] at hR8 t8
      have hF8 : FS B m4 w4 X k2 A2 c2 v7 ns4 V4 w7 := ⟨hR8, t8.rowI hF7.out.pr, hF7.out.cap, hF7.out.kl, hok4, hF7.out.tu.trans t8⟩
      have hB7 := Nat.le_trans hB6 t8.bel.size
      obtain ⟨gN7, cN7, rfl, _, _, _⟩ := hR8.slice (List.length_pos_iff.2 hne4)
      obtain ⟨R, hR1, hR2⟩ := lastI_at hne4
      have hwm := Il.wts_mem (List.mem_of_getElem? hR1)
      have hfr8 := hfr4.out.turn hF8.tu
      have hi1v : i + 1 < V.length := by rw [hVl.out, hlrs.out]; omega
      have hi1r : i + 1 < rs.length := by rw [hlrs.out]; omega
      obtain ⟨AJ, cJ, PJ, dJ, ej1, ej2, ej3, ej4, ej5⟩ := hfr8.rows (i + 1) (by omega) hi1r hi1v
      rw [← hRf.out] at ej1 ej2 ej3 ej4 ej5
      obtain ⟨bF, oF, hbF, hqF, hcF7⟩ := hfr8.flat.2 (by omega)
      injection hbF with hbF
      injection hbF with e1 e2
      subst e1 e2
      have hv3 := v3_at hi1v
      rw [ej1, ej2] at hv3
      have xf0 := hcF7 _ _ hv3.1
      have xf1 := hcF7 _ _ hv3.2
      simp only [Nat.zero_add] at xf0 xf1
      obtain ⟨cssJ, hcssJ⟩ : ∃ cs, cs = V[i + 1].2.2 := ⟨_, rfl⟩
      rw [← hcssJ] at ej3 ej4
      have hokf : Rf.ok := by rw [hRf.out]; exact hok.out _ (List.getElem_mem hi1r)
      have hwf : Rf.wt ≤ 1000000000 := by omega
      have hwR : R.wt ≤ 1000000000 := by omega
      obtain ⟨x1, y1, z1, e1, q1, i1⟩ := hR8.look ⟨by decide, by decide, by decide⟩ hR1
      have hc1 := hR8.cn (i := ns4.length - 1) (g := gN7) (cp := cN7) rfl (by have := List.length_pos_iff.2 hne4; omega)
      have hS : (fun u : World => u.cell? ⟨gF, (i + 1) * 2, none⟩ = some (.slice AJ Rf.l.length cJ) ∧ u.cell? ⟨gF, (i + 1) * 2 + 1, none⟩ = some (.slice PJ Rf.p.length dJ)) w7.drew := ⟨xf0, xf1⟩
      have hcalld : Hid (Calls Tryz.prog 49 #[.pointer (some ⟨gN7, (ns4.length - 1) * 2, none⟩), .agg #[.slice AJ Rf.l.length cJ, .slice PJ Rf.p.length dJ]] w7.drew fun e w' => e = .returned (.tuple #[]) ∧ ∃ V9, FS B m4 w4 X k2 A2 c2 (.slice (some ⟨gN7, 0, none⟩) ns4.length cN7) (Il.lastI (fun R => R.join Rf) ns4) V9 w' ∧ (fun u : World => u.cell? ⟨gF, (i + 1) * 2, none⟩ = some (.slice AJ Rf.l.length cJ) ∧ u.cell? ⟨gF, (i + 1) * 2 + 1, none⟩ = some (.slice PJ Rf.p.length dJ)) w' ∧ B ≤ w'.heap.size) := Lib.hid (by
        have hq : Hq w7.drew B (rowm (rowsF noM 6 7 8 (.slice (some ⟨gN7, 0, none⟩) ns4.length cN7) ns4 V4) (ksAt 6 7 8 (ns4.length - 1)) (cAt (.slice (some ⟨gN7, 0, none⟩) ns4.length cN7) ns4.length V4 (ns4.length - 1)) R x1 y1 z1) := q1.drewT.hp
        refine (pjoin_any (ksAt_ok ⟨by decide, by decide, by decide⟩ (ns4.length - 1)) hc1 hq (q1.drewT.kids i1) hB7 hwR Rf hokf hwf AJ cJ cssJ PJ dJ (by rw [e1]; exact hR8.hp.drewT.rowI ej3) (by rw [e1]; exact hR8.hp.drewT.kids ej4) (by rw [e1]; exact hR8.hp.drewT.rowI ej5)).mono ?_
        rintro e w' ⟨rfl, vi', vp', css', t, hI'⟩
        obtain ⟨hR9, hT9⟩ := hR8.turned (w' := w') ⟨by decide, by decide, by decide⟩ hR1 e1 (q1.drewT.trans t) hI'
        rw [← hR2 (fun R => R.join Rf)] at hR9 hT9
        have hgf := hT9.fre gF hqF
        exact ⟨rfl, _, hF8.say (fun R hR => (Il.Rw.join_all hR hokf).1) hR9 hT9, ⟨keep_cell hgf.1 _ xf0, keep_cell hgf.1 _ xf1⟩, Nat.le_trans hB7 hT9.bel.size⟩)
      have hlast := Lib.hid (fun w => plast_any gN7 ns4.length cN7 (List.length_pos_iff.2 hne4) (by have := hc5.out; omega) w)
      have hfinal : Hid (Il.mrows (Il.lfin runs) (fun r => (Em.get runs r).ch) (i + 1) ((rs.drop (i + 1 + 1)).map Il.Rw.full) (X.drop k2, stk (Il.lastI (fun R => R.join Rf) ns4)) = ([], [T])) := Lib.hid (by
        rw [stk_join hne4 hok4 hokf, hns4, stk_push, hstk3.out]
        have h1 := hm5.out
        unfold after Il.run1 at h1
        simp only [hstop.out] at h1
        rw [opn_drop (fun x hx => (hgood.out x hx).1) hl5.out, ← hope.out, ← hlfe.out, hgi.out] at h1
        exact h1)
      have hcnt2 : Hid ((Il.lastI (fun R => R.join Rf) ns4).length + k2 = 1 + X.countP fun x => decide (x.1 < i + 1)) := Lib.hid (by
        rw [Il.lastI_len, hl4, count_next, ← hope.out]
        have := hc5.out
        omega)
      have hle2 : Hid (∀ x ∈ X.take k2, x.2.1 ≤ i + 1) := Lib.hid (fun x hx => Nat.le_succ_of_le (hl5.out x hx))
      have hwj : Il.wts (Il.lastI (fun R => R.join Rf) ns4) ≤ Il.wts ns4 + 2 * Rf.wt := Il.wts_lastI (fun R => Il.Rw.wt_join R Rf) ns4
      have hpot2 : Il.wts (Il.lastI (fun R => R.join Rf) ns4) + 2 * (X.length - k2) + 2 * Il.wts (rs.drop (i + 1 + 1)) + cts (runs.drop (i + 1)) ≤ M := by
        show _ + _ + 2 * Il.wts (rs.drop (i + 2)) + _ ≤ M
        omega
      have hgFl : gF < w7.heap.size := hqF.2.1
      obtain ⟨nm, hnm⟩ : ∃ nm, nm = (ns4.length - 1) * 2 := ⟨_, rfl⟩
      rw [← hnm] at hlast hcalld
      obtain ⟨n4, hn4⟩ : ∃ n4, n4 = ns4.length := ⟨_, rfl⟩
      rw [← hn4] at hlast hcalld ⊢
      have hif : ((i : Int) + 1) < (nf : Int) := by omega
      have hif0 : (0 : Int) ≤ (i : Int) + 1 := by omega
      have hwi : (((i : Int) + 1).toNat) = i + 1 := by omega
      have hwrp : IntKind.i64.wrap ((i : Int) + 1) = (i : Int) + 1 := by rw [IntKind.wrap_i64]; omega
      have hif2 : (i : Int) + 1 < (n : Int) + 1 := by omega
      clear hnm hn4 hR8 t8 hF8 hfr8 ej1 ej2 ej3 ej4 ej5 hcF7 hv3 xf0 xf1 q1 i1 hc1 e1 hR1 hR2 hwm hok4 hqF
      go_upto_region 17 with fail
      refine wp_region_tree (.rd 0 (.rd 2 (.rd 3 (.rd 4 (.rd 5 (.rd 6 (.mk 1 (.mk 7 .fin)))))))) (fun u : World => u.cell? ⟨gF, (i + 1) * 2, none⟩ = some (.slice AJ Rf.l.length cJ) ∧ u.cell? ⟨gF, (i + 1) * 2 + 1, none⟩ = some (.slice PJ Rf.p.length dJ)) hS (by kernel_rfl) (by kernel_rfl) (by kernel_rfl) (fun _ _ d _ _ h => by cases d <;> exact h) ?_
      (first | refine wpT_move rfl ?_ | (refine wpT_rd rfl ?_; intro K hK; go_simp; refine hK _ _ _ ?_; clear hK K))
      (first | refine wpT_move rfl ?_ | (refine wpT_rd rfl ?_; intro K hK; go_simp; refine hK _ _ _ ?_; clear hK K))
      (first | refine wpT_move rfl ?_ | (refine wpT_rd rfl ?_; intro K hK; go_simp; refine hK _ _ _ ?_; clear hK K))
      (first | refine wpT_move rfl ?_ | (refine wpT_rd rfl ?_; intro K hK; go_simp; refine hK _ _ _ ?_; clear hK K))
      (first | refine wpT_move rfl ?_ | (refine wpT_rd rfl ?_; intro K hK; go_simp; refine hK _ _ _ ?_; clear hK K))
      refine wpT_read (.agg #[.slice AJ Rf.l.length cJ, .slice PJ Rf.p.length dJ]) rfl rfl hS (fun u hu => by obtain ⟨h1, h2⟩ := hu; go_simp) ?_
      refine wpT_mk rfl ?_
      intro K hK
      go_simp
      refine (hlast.out _).mono ?_
      rintro e w8 ⟨rfl, rfl⟩
      refine ⟨_, hS, fun _ h => h, hK _ _ _ ?_⟩
      clear hK K
      refine wpT_mk rfl ?_
      intro K hK
      go_simp
      refine hcalld.out.mono ?_
      rintro e w9 ⟨rfl, V9, hF9, hS9, hB9⟩
      refine ⟨_, hS9, fun _ h => h, hK _ _ _ ?_⟩
      clear hK K hS hS9 hcalld hlast
      replace hF9 := Lib.hid hF9
      refine wpT_fin ?_
      go_wp2_with fail
      go_roundw
      case rel => exact ⟨i + 1, k2, A2, c2, _, _, V9, rfl, rfl, by go_num, by omega, hF9, hfinal, hcnt2, hle2, hpot2, hB9⟩
      case measure => simp [intOf]; omega
    · have hin : i = n := by omega
      subst hin
      have hend := hmean.out
      rw [List.drop_eq_nil_of_le (by rw [hlr.out, ← hnn.out]; omega)] at hend
      have hst : stk ns = [T] := congrArg Prod.snd hend
      have hl1 : ns.length = 1 := by rw [← stk_len, hst]; rfl
      obtain ⟨R, rfl⟩ : ∃ R, ns = [R] := List.length_eq_one_iff.1 hl1
      have hRT : R.full = T := by simpa [stk] using hst
      obtain ⟨gN2, cN2, rfl, _, _, _⟩ := hF.out.rs.slice (by simp)
      obtain ⟨x1, y1, z1, e1, q1, i1⟩ := hF.out.rs.look (i := 0) (R := R) ⟨by decide, by decide, by decide⟩ rfl
      have hc1 := hF.out.rs.cn (i := 0) (g := gN2) (cp := cN2) rfl (by simp)
      have hwm : R.wt ≤ Il.wts [R] := by simp [Il.wts]
      have hRb : R.p.length ≤ 1000000000 ∧ R.l.length ≤ 1000000000 := by unfold Il.Rw.wt at hwm; omega
      have hall := Lib.hid (pall_any (ksAt_ok ⟨by decide, by decide, by decide⟩ 0) hc1 q1 i1 hBr (by omega) (by omega))
      have hlast := fun w => plast_any gN2 1 cN2 (by omega) (by omega) w
      have htu := Lib.hid hF.out.tu.bel
      have hbt := Lib.hid tot.out.bel
      clear q1 i1 e1 hc1 hF hmean hend hst hwm hcnt hle hpot
      replace hRT := Lib.hid hRT
      simp only [List.length_singleton] at *
      go_wp2_with fail
      refine (hlast _).mono ?_
      rintro e w8 ⟨rfl, rfl⟩
      go_wp2_with fail
      refine hall.out.mono ?_
      rintro e w9 ⟨v9, rfl, vp9, css9, t9, hI9⟩
      have hown : w9.ownsRow B 41 4 v9 R.full.length css9.flatten := t9.hp.holds _ _ (rowm_i (ksAt_ok ⟨by decide, by decide, by decide⟩ 0))
      have hkids := ICs_frame (w' := w9) (Q' := fun b => B ≤ b ∧ b < w9.heap.size) (fun _ _ => rfl) (fun b hb => ⟨hb.1, hb.2.1⟩) hI9
      have hbel := Lib.hid (hbt.out.trans (htu.out.trans t9.bel))
      replace hown := Lib.hid hown
      replace hkids := Lib.hid hkids
      rw [hRT.out] at hown hkids
      clear t9 hI9 hall
      go_wp2_with fail
      go_ret
      exact ⟨_, rfl, css9, hown.out, hkids.out, hbel.out⟩
end Go.Proofs.YtkfhkfagmokjpaaGreatDoor

namespace Go.Proofs.YtkfhkfagmokjpaaGreatDoor
open Go.RowKit

set_option maxHeartbeats 4000000 in
set_option maxRecDepth 100000 in
theorem pfold_none {m : Ky → Option Pa} {vF : Value} {R : Il.Rw} {V : List V3} {w : World} {B : Nat} {AR : Option Addr} {cR : Nat} (h : RS w B m 3 4 5 vF [R] V) (hB : B ≤ w.heap.size) (hw : R.wt ≤ 1000000000) :
    Calls Tryz.prog 23 #[vF, .slice AR 0 cR] w fun e w' => ∃ v, e = .returned v ∧ ∃ css, w'.ownsRow B 41 4 v R.full.length css.flatten ∧ ICs w' (fun b => B ≤ b ∧ b < w'.heap.size) R.full css ∧ Below B w w' := by
  obtain ⟨g, cp, rfl, _, _, _⟩ := h.slice (by simp)
  obtain ⟨x1, y1, z1, e1, q1, i1⟩ := h.look (i := 0) (R := R) ⟨by decide, by decide, by decide⟩ rfl
  have hc1 := h.cn (i := 0) (g := g) (cp := cp) rfl (by simp)
  have hRb : R.p.length ≤ 1000000000 ∧ R.l.length ≤ 1000000000 := by unfold Il.Rw.wt at hw; omega
  have hall := Lib.hid (pall_any (ksAt_ok ⟨by decide, by decide, by decide⟩ 0) hc1 q1 i1 hB (by omega) (by omega))
  clear h e1 q1 i1 hc1 hRb
  simp only [List.length_singleton]
  go_enter Tryz.func23, Tryz.ntmps23
  go_wp2_with fail
  refine hall.out.mono ?_
  rintro e w9 ⟨v9, rfl, vp9, css9, t9, hI9⟩
  have hown : w9.ownsRow B 41 4 v9 R.full.length css9.flatten := t9.hp.holds _ _ (rowm_i (ksAt_ok ⟨by decide, by decide, by decide⟩ 0))
  have hkids := ICs_frame (w' := w9) (Q' := fun b => B ≤ b ∧ b < w9.heap.size) (fun _ _ => rfl) (fun b hb => ⟨hb.1, hb.2.1⟩) hI9
  have hbel := Lib.hid t9.bel
  replace hown := Lib.hid hown
  replace hkids := Lib.hid hkids
  clear t9 hI9 hall
  go_wp2_with fail
  go_ret
  exact ⟨_, rfl, css9, hown.out, hkids.out, hbel.out⟩
/-- what is read is put together as the document says -/
theorem pfold_any {m : Ky → Option Pa} {vF : Value} {rs : List Il.Rw} {V : List V3} {w : World} {B : Nat} {AR : Option Addr} {cR i : Nat} (st : Il.Sc) (h : RS w B m 3 4 5 vF rs V) (hB : B ≤ w.heap.size) (hruns : m (1, 0) = some (.row 96 4 (.slice AR st.runs.length cR) st.runs.length (acells st.runs)))
    (hrel : Il.Rel rs st) (hsc : Il.ScOK st i) (hi : i ≤ 4000000) (hch : ∀ r ∈ st.runs, r.ch.toNat < 128) (hwt : Il.wts rs ≤ 64000000) (hct : cts st.runs ≤ 4000000) :
    Calls Tryz.prog 23 #[vF, .slice AR st.runs.length cR] w fun e w' => ∃ v, e = .returned v ∧ ∃ css, w'.ownsRow B 41 4 v (Il.stress st.l st.runs).length css.flatten ∧ ICs w' (fun b => B ≤ b ∧ b < w'.heap.size) (Il.stress st.l st.runs) css ∧ Below B w w' := by
  have hfr := Il.fold_rows hrel hsc
  by_cases h0 : st.runs = []
  · obtain ⟨R, Rs, rfl, e2⟩ := hfr
    have hl := hrel.len
    rw [h0] at hl e2
    have hRs : Rs = [] := by
      cases Rs with
      | nil => rfl
      | cons a b => simp at hl
    subst hRs
    have e3 : R.full = Il.stress st.l st.runs := by
      have h2 := congrArg Prod.snd e2
      rw [h0]
      have e4 : [R.full] = [Il.stress st.l []] := h2
      injection e4
    rw [← e3, h0]
    exact pfold_none h hB (Nat.le_trans (Il.wts_mem (List.mem_singleton.2 rfl)) (by omega))
  · have hp : 1 ≤ st.runs.length := List.length_pos_iff.2 h0
    exact pfold_some st.runs _ h hB hruns hrel.len (Nat.le_trans hsc.rlen hi) hp hrel.ok (fun r hr => ⟨hch r hr, hsc.pos r hr⟩) hwt hct hfr
end Go.Proofs.YtkfhkfagmokjpaaGreatDoor

namespace Go.Proofs.YtkfhkfagmokjpaaGreatDoor
open Go.RowKit Go.Maps

def rdC (s : List UInt8) (link : Bool) (gm : Nat) (vr vF : Value) : Array Value := #[.string (bs s), .bool link, .string (bs s), .map (some gm), vr, vF]
def rdM (bR gm nm : Nat) (s : List UInt8) (link : Bool) (D : DataW Unit) (vr vF : Value) (runs : List Em.R) : Ky → Option Pa := fun q =>
  if q = (0, 0) then some (.blk bR (rdC s link gm vr vF) 59)
  else if q = (1, 0) then some (.row 96 4 vr runs.length (acells runs))
  else if q = (2, 0) then some (.map gm nm D) else none
/-- where a bracket closes, or the text's end -/
def closing (s : List UInt8) (i : Nat) : Nat := (Lk.close s (i : Int)).getD s.length
/-- what is kept is right -/
def EndsOK (s : List UInt8) (D : DataW Unit) : Prop := ∀ i : Nat, Maps.has D (.int .i64 (i : Int)) = true → (i < s.length ∧ s.getD i 0 = 91) ∧ D.atKey (.int .i64 (i : Int)) (.lit (.int .i64 0)) = .lit (.int .i64 (closing s i : Int))
structure RD (w : World) (B bR : Nat) (s : List UInt8) (link : Bool) (st : Il.Sc) (gm nm : Nat) (D : DataW Unit) (vr vF : Value) (rs : List Il.Rw) (V : List V3) : Prop where
  rw : RS w B (rdM bR gm nm s link D vr vF st.runs) 3 4 5 vF rs V
  rel : Il.Rel rs st
  ends : EndsOK s D
/-- what has been read up to a place -/
def RdOK (w : World) (B bR : Nat) (s : List UInt8) (link : Bool) (st : Il.Sc) (i mk : Nat) : Prop :=
  B ≤ w.heap.size ∧ ∃ gm nm D vr vF rs V, RD w B bR s link st gm nm D vr vF rs V ∧ Il.wts rs ≤ 16 * i ∧ nm ≤ mk
section
variable {w w' : World} {B bR : Nat} {s : List UInt8} {link : Bool} {st : Il.Sc} {gm nm : Nat} {D : DataW Unit} {vr vF : Value} {rs : List Il.Rw} {V : List V3}
theorem RD.blk (h : RD w B bR s link st gm nm D vr vF rs V) : w.heap[bR]? = some (.cells (rdC s link gm vr vF) 59 (0, 0)) ∧ B ≤ bR ∧ bR < w.heap.size := by
  have hk : rowsF (rdM bR gm nm s link D vr vF st.runs) 3 4 5 vF rs V (0, 0) = some (.blk bR (rdC s link gm vr vF) 59) := by
    unfold rowsF rdM
    rw [if_neg (by simp), if_neg (by simp), if_neg (by simp), if_pos rfl]
  have h1 := h.rw.hp.holds _ _ hk
  exact ⟨h1.2, h1.1, (Array.getElem?_eq_some_iff.1 h1.2).1⟩
theorem RD.cells (h : RD w B bR s link st gm nm D vr vF rs V) : w.cell? ⟨bR, 0, none⟩ = some (.string (bs s)) ∧ w.cell? ⟨bR, 1, none⟩ = some (.bool link) ∧ w.cell? ⟨bR, 2, none⟩ = some (.string (bs s)) ∧ w.cell? ⟨bR, 3, none⟩ = some (.map (some gm)) ∧ w.cell? ⟨bR, 4, none⟩ = some vr ∧ w.cell? ⟨bR, 5, none⟩ = some vF ∧ (∀ j, w.frozen? ⟨bR, j, none⟩ = false) := by
  have hb := h.blk.1
  exact ⟨blk_cell hb 0, blk_cell hb 1, blk_cell hb 2, blk_cell hb 3, blk_cell hb 4, blk_cell hb 5, blk_free hb⟩
theorem RD.ext (h : RD w B bR s link st gm nm D vr vF rs V) (hB : B ≤ w.heap.size) (hb : Below w.heap.size w w') : RD w' B bR s link st gm nm D vr vF rs V := ⟨h.rw.ext hB hb, h.rel, h.ends⟩
theorem RD.ne (h : RD w B bR s link st gm nm D vr vF rs V) : rs ≠ [] := by
  have := h.rel.len
  intro e; rw [e] at this; simp at this
/-- the last row has turned -/
theorem RD.last (h : RD w B bR s link st gm nm D vr vF rs V) {R : Il.Rw} (hR : rs[rs.length - 1]? = some R) (f : Il.Rw → Il.Rw) {st' : Il.Sc} (hrel : Il.Rel (Il.lastI f rs) st') (hruns : st'.runs = st.runs) (hf : Il.lastI f rs = rs.set (rs.length - 1) (f R))
    {x0 y0 x y : Value} {z0 z : List (List Value)} (he : rowm (rowsF (rdM bR gm nm s link D vr vF st.runs) 3 4 5 vF rs V) (ksAt 3 4 5 (rs.length - 1)) (cAt vF rs.length V (rs.length - 1)) R x0 y0 z0 = rowsF (rdM bR gm nm s link D vr vF st.runs) 3 4 5 vF rs V)
    (t : Turn B (rowm (rowsF (rdM bR gm nm s link D vr vF st.runs) 3 4 5 vF rs V) (ksAt 3 4 5 (rs.length - 1)) (cAt vF rs.length V (rs.length - 1)) R x0 y0 z0) w (rowm (rowsF (rdM bR gm nm s link D vr vF st.runs) 3 4 5 vF rs V) (ksAt 3 4 5 (rs.length - 1)) (cAt vF rs.length V (rs.length - 1)) (f R) x y z) w')
    (hI : ICs w' (Fr w' B (rowm (rowsF (rdM bR gm nm s link D vr vF st.runs) 3 4 5 vF rs V) (ksAt 3 4 5 (rs.length - 1)) (cAt vF rs.length V (rs.length - 1)) (f R) x y z)) (f R).l z) : RD w' B bR s link st' gm nm D vr vF (Il.lastI f rs) (V.set (rs.length - 1) (x, y, z)) ∧ Below B w w' := by
  obtain ⟨h1, h2⟩ := h.rw.turned ⟨by decide, by decide, by decide⟩ hR he t hI
  rw [← hf] at h1
  refine ⟨⟨?_, hrel, h.ends⟩, t.bel⟩
  rw [hruns]; exact h1

set_option maxHeartbeats 8000000 in
set_option maxRecDepth 100000 in
/-- the last row says a rune more -/
theorem rd_sayRune (h : RD w B bR s link st gm nm D vr vF rs V) (hB : B ≤ w.heap.size) (r : Nat) (hr : Ru.vr r) (hw : Il.wts rs ≤ 64000000) (hbig : rs.length ≤ 1000000000) : ∃ g c, vF = .slice (some ⟨g, 0, none⟩) rs.length c ∧ 0 < rs.length ∧
    Calls Tryz.prog 48 #[.pointer (some ⟨g, (rs.length - 1) * 2, none⟩), .int .i32 (r : Int)] w fun e w' => e = .returned (.tuple #[]) ∧ ∃ V', RD w' B bR s link ⟨Il.pput st.l (Lib.encodeRune (r : Int)), st.runs⟩ gm nm D vr vF (Il.lastI (fun R => R.say (Lib.encodeRune (r : Int))) rs) V' ∧ Below B w w' := by
  have hp := List.length_pos_iff.2 h.ne
  obtain ⟨g, c, hv, hc, _, _⟩ := h.rw.slice hp
  obtain ⟨R, hR1, hR2⟩ := lastI_at h.ne
  have hwm := Il.wts_mem (List.mem_of_getElem? hR1)
  obtain ⟨x1, y1, z1, e1, q1, i1⟩ := h.rw.look ⟨by decide, by decide, by decide⟩ hR1
  have hc1 := h.rw.cn (i := rs.length - 1) hv (by omega)
  refine ⟨g, c, hv, hp, (psayRune_any (ksAt_ok ⟨by decide, by decide, by decide⟩ (rs.length - 1)) hc1 q1 hB r hr (by unfold Il.Rw.wt at hwm; omega)).mono ?_⟩
  rintro e w' ⟨rfl, vp', t⟩
  exact ⟨rfl, _, (h.last hR1 (fun R => R.say (Lib.encodeRune (r : Int))) (Il.rel_say h.rel (Il.v8_one hr)) rfl (hR2 _) e1 t (t.kids i1))⟩
end
end Go.Proofs.YtkfhkfagmokjpaaGreatDoor

namespace Go.Proofs.YtkfhkfagmokjpaaGreatDoor
open Go.RowKit Go.Maps
attribute [local go_sem] canOp readsAs readUpon

section
variable {w : World} {B bR : Nat} {s : List UInt8} {link : Bool} {st : Il.Sc} {i mk : Nat}
theorem RdOK.runs_le {w : World} (ok : Il.ScOK st i) (hi : i ≤ s.length) (hs : s.length ≤ 4000000) {gm nm : Nat} {D : DataW Unit} {vr vF : Value} {rs : List Il.Rw} {V : List V3} (h : RD w B bR s link st gm nm D vr vF rs V) : rs.length ≤ 4000001 := by
  have h1 := h.rel.len
  have h2 := ok.rlen
  omega
set_option maxHeartbeats 8000000 in
set_option maxRecDepth 100000 in
theorem rd_plain (h : RdOK w B bR s link st i mk) (ok : Il.ScOK st i) (hi : i < s.length) (hs : s.length ≤ 4000000) :
    Calls Tryz.prog 42 #[.pointer (some ⟨bR, 0, none⟩), .int .i64 (i : Int)] w fun e w' => e = .returned (.int .i64 ((Es.next s i).2.1 : Int)) ∧
      RdOK w' B bR s link ⟨Il.pput st.l (Lib.encodeRune ((Es.next s i).1 : Int)), st.runs⟩ (Es.next s i).2.1 mk ∧ Below B w w' := by
  obtain ⟨hB, gm, nm, D, vr, vF, rs, V, hR, hw, hnm⟩ := h
  obtain ⟨hm1, hm2⟩ := Es.next_more hi
  have hl1 := RdOK.runs_le ok (by omega) hs hR
  have hV : nextV s i = .tuple #[.int .i32 ((Es.next s i).1 : Int), .int .i64 ((Es.next s i).2.1 : Int), .bool (Es.next s i).2.2] := rfl
  have hvx := Es.next_vr s i
  have hnext := Lib.hid (pnext_any s (i : Int) (by omega) w trivial)
  rw [show ((i : Int)).toNat = i from by omega, hV] at hnext
  clear hV
  obtain ⟨x, hx⟩ : ∃ x, x = (Es.next s i).1 := ⟨_, rfl⟩
  obtain ⟨n, hn⟩ : ∃ n, n = (Es.next s i).2.1 := ⟨_, rfl⟩
  obtain ⟨o, ho⟩ : ∃ o, o = (Es.next s i).2.2 := ⟨_, rfl⟩
  rw [← hx, ← hn, ← ho] at hnext
  rw [← hn] at hm1 hm2
  rw [← hx] at hvx
  rw [← hx, ← hn]
  clear hx hn ho
  obtain ⟨f0, f1, f2, f3, f4, f5, f6⟩ := hR.cells
  have hp := List.length_pos_iff.2 hR.ne
  obtain ⟨g, c, rfl, _, _, _⟩ := hR.rw.slice hp
  have hsay := Lib.hid (fun (w1 : World) (hb : Below w.heap.size w w1) => rd_sayRune (hR.ext hB hb) (Nat.le_trans hB hb.size) x hvx (by omega) (by omega))
  have hcl := Lib.hid (fun (w1 : World) (hb : Below w.heap.size w w1) => (hR.ext hB hb).cells)
  have hlast := Lib.hid (fun w => plast_any g rs.length c hp (by omega) w)
  have hwl := Il.wts_lastI (f := fun R => R.say (Lib.encodeRune (x : Int))) (k := 4) (fun R => by
    rw [Il.Rw.wt_say]
    have := (Ru.enc_len [x]).2
    simp [Ru.enc] at this
    omega) rs
  replace hwl := Lib.hid hwl
  clear hR
  go_enter Tryz.func42, Tryz.ntmps42
  go_wp2_with fail
  refine hnext.out.mono ?_
  rintro e w1 ⟨rfl, hb1⟩
  have hb1h := Lib.hid hb1
  obtain ⟨c0, c1, c2, c3, c4, c5, c6⟩ := hcl.out w1 hb1
  obtain ⟨g', c', hv', _, hsay1⟩ := hsay.out w1 hb1
  obtain ⟨rfl, rfl⟩ : g = g' ∧ c = c' := by injection hv' with h1 h2 h3; injection h1 with h1; injection h1 with h1; exact ⟨h1, h3⟩
  replace hsay1 := Lib.hid hsay1
  clear f0 f1 f2 f3 f4 f5 f6 hsay hcl hnext hb1 hv'
  go_wp2_with fail
  refine (hlast.out _).mono ?_
  rintro e w2 ⟨rfl, rfl⟩
  go_wp2_with fail
  refine hsay1.out.mono ?_
  rintro e w3 ⟨rfl, V', hR3, hb3⟩
  have hb := (hb1h.out.mono hB).trans hb3
  replace hR3 := Lib.hid hR3
  replace hb := Lib.hid hb
  clear c0 c1 c2 c3 c4 c5 c6 hb3
  go_wp2
  go_ret
  exact ⟨rfl, ⟨Nat.le_trans hB hb.out.size, gm, nm, D, vr, _, _, V', hR3.out, by have := hwl.out; omega, by omega⟩, hb.out⟩
end
end Go.Proofs.YtkfhkfagmokjpaaGreatDoor
