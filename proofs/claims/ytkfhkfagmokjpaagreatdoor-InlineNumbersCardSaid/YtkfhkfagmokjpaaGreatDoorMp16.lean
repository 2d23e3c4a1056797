/- Pages, by no program: what inlines and blocks are on a page; whether a page's tags open and close one within the other. Inlines, by no program: how much a text's inlines are, all in all: no more than so many times its bytes. The document's own inlines: two rows of the same trees are alike. The document's own inlines: a text within a link, parted. The document's own inlines: a text of a block, parted. The document's own inlines: Parse. -/
import Derived.Test.YtkfhkfagmokjpaaGreatDoorMp13
import Derived.Test.YtkfhkfagmokjpaaGreatDoorMp04
import Derived.Test.YtkfhkfagmokjpaaGreatDoorMp15
import Derived.Test.YtkfhkfagmokjpaaGreatDoorMp12
import Derived.Deep.DeepCutAuto
namespace Go.Proofs.YtkfhkfagmokjpaaGreatDoor.Hm
open Go.Lib

end Go.Proofs.YtkfhkfagmokjpaaGreatDoor.Hm

namespace Go.Proofs.YtkfhkfagmokjpaaGreatDoor.Il
open Go.Lib

mutual
def mass : In → Nat
  | .mk _ t d ks => t.length + d.length + 1 + masses ks
def masses : List In → Nat
  | [] => 0
  | x :: r => mass x + masses r
end
theorem masses_append : ∀ a b, masses (a ++ b) = masses a + masses b
  | [], b => by simp [masses]
  | x :: r, b => by rw [List.cons_append]; simp only [masses]; rw [masses_append r b]; omega
theorem masses_snoc (a : List In) (x : In) : masses (a ++ [x]) = masses a + mass x := by rw [masses_append]; simp [masses]
def pm (l : List Pt) : Nat := (l.map fun p => mass (eff p)).sum
theorem pm_append (a b : List Pt) : pm (a ++ b) = pm a + pm b := by simp [pm]
theorem pm_cons (p : Pt) (b : List Pt) : pm (p :: b) = mass (eff p) + pm b := by simp [pm]
theorem pm_nil : pm [] = 0 := rfl
theorem iput_mass (out : List In) (x : In) : masses (iput out x) ≤ masses out + mass x := by
  rcases iput_cases out x with e | ⟨o, t', d', ks', t, d, ks, rfl, rfl, e⟩ | e
  · rw [e]; omega
  · rw [e, masses_snoc, masses_snoc]
    simp only [mass, List.length_append]
    omega
  · rw [e, masses_snoc]; omega
theorem fold_mass : ∀ (l : List Pt) (out : List In), masses (l.foldl (fun out p => iput out (eff p)) out) ≤ masses out + pm l
  | [], out => by simp [pm]
  | p :: l, out => by
    rw [List.foldl_cons, pm_cons]
    have h1 := fold_mass l (iput out (eff p))
    have h2 := iput_mass out (eff p)
    omega
theorem settle_mass (l : List Pt) : masses (settle l) ≤ pm l := by
  have := fold_mass l []
  simpa [settle, masses] using this
theorem mass_less {p : Pt} {r : Nat} (h : p.run = some r) (s : Nat) : mass (eff { p with left := p.left - s }) ≤ mass (eff p) := by
  obtain ⟨⟨kd, t, d, ks⟩, rn, n, c⟩ := p
  simp only at h
  subst h
  simp only [eff_some, mass, List.length_replicate]
  omega
theorem join_mass {l : List Pt} {a b s : Nat} (hs : (rns l).Pairwise (· < ·)) (ha : a ∈ rns l) (hb : b ∈ rns l) (hab : a < b) : pm (joinPair l (a, b, s)) ≤ pm l + 1 := by
  obtain ⟨A, p, B, q, C, rfl, hp, hq, h1, h2, _, _, _⟩ := place_two hs ha hb hab
  rw [joinPair_eq h1 h2]
  have k := settle_mass B
  have e1 := mass_less hp s
  have e2 := mass_less hq s
  have e3 : mass (eff ⟨.mk (if s = 2 then 3 else 2) [] [] (settle B), none, 0, 0⟩) = 1 + masses (settle B) := by
    rw [eff_none]; simp [mass]
  rw [pm_append, pm_append, pm_cons, pm_cons, pm_cons, pm_cons, pm_append, pm_cons, e3]
  omega
theorem stress_mass {l : List Pt} {runs : List Em.R} (h : Ready l runs) : masses (stress l runs) ≤ pm l + 100 * runs.length := by
  have hbd := Em.bd_pairs runs
  have key : ∀ k, k ≤ (Em.pairs runs).length → pm (behindP l (Em.pairs runs) k) ≤ pm l + k := by
    intro k
    induction k with
    | zero => intro _; simp [behindP]
    | succ k ih =>
      intro hk
      have hk' : k < (Em.pairs runs).length := by omega
      have i := ih (by omega)
      have hh := holds_all h k (by omega)
      have ht := hh.there k hk' (Nat.le_refl _)
      have hg := good_pairs runs _ (List.getElem_mem hk')
      have := join_mass (s := (Em.pairs runs)[k].2.2) hh.sorted ht.1 ht.2 hg.1
      rw [behind_next hk']
      exact Nat.le_trans this (by omega)
  have e : stress l runs = settle (behindP l (Em.pairs runs) (Em.pairs runs).length) := by unfold stress behindP; rw [List.take_of_length_le (Nat.le_refl _)]
  have h1 := key _ (Nat.le_refl _)
  have h2 := settle_mass (behindP l (Em.pairs runs) (Em.pairs runs).length)
  rw [e]
  omega
theorem pput_mass (l : List Pt) (s : List UInt8) : pm (pput l s) ≤ pm l + s.length + 1 := by
  rcases pput_cases l s with ⟨l', t, d, k, n, c, rfl, h⟩ | h
  · rw [h, pm_append, pm_append, pm_cons, pm_cons, pm_nil]
    simp only [eff_none, mass, List.length_append]
    omega
  · rw [h, pm_append, pm_cons, pm_nil]
    simp only [word, eff_none, mass, masses, List.length_nil]
    omega
theorem dest_len {s : List UInt8} {k : Nat} {d : List UInt8} {e : Nat} (h : Lk.dest s (k : Int) = some (d, e)) : d.length + 4 * k ≤ 4 * e := by
  have hsp := dest_spec h
  unfold Lk.dest at h
  split at h
  · obtain ⟨j, hj, he⟩ := Option.map_eq_some_iff.1 h
    have hd := Lk.dends_spec _ _ _ hj
    rw [Int.toNat_natCast] at hd he
    injection he with h1 h2
    have e1 := enc_few (Es.plain (Go.Proofs.YtkfhkfagmokjpaaGreatDoor.mid s (k + 1) j))
    have e2 := Es.plain_len (Go.Proofs.YtkfhkfagmokjpaaGreatDoor.mid s (k + 1) j)
    rw [Go.Proofs.YtkfhkfagmokjpaaGreatDoor.mid_len (by omega)] at e2
    rw [← h1]
    omega
  · cases h
/-- how much an inner text's are -/
def InnerM (inner : List UInt8 → List In) (C : Nat) : Prop := ∀ t, t.length ≤ 4000000 → masses (inner t) ≤ C * t.length
theorem piece_mass (link : Bool) (inner : List UInt8 → List In) {C : Nat} (hC : 7 ≤ C) (hin : link = false → InnerM inner C) {s : List UInt8} (hs : s.length ≤ 4000000) {i : Nat} (h : i < s.length) {st : Sc} (hf : pm st.l ≤ C * i) :
    pm (piece link inner s i st).2.l ≤ C * (piece link inner s i st).1 := by
  have hm := piece_more link inner h st
  have lin : ∀ {e x : Nat}, i < e → x ≤ 7 * (e - i) → pm st.l + x ≤ C * e := by
    intro e x he hx
    have h1 : C * e = C * i + C * (e - i) := by rw [← Nat.mul_add]; congr 1; omega
    have h2 : 7 * (e - i) ≤ C * (e - i) := Nat.mul_le_mul_right _ hC
    omega
  unfold piece at hm ⊢
  by_cases h96 : s.getD i 0 = 96
  · rw [if_pos h96] at hm ⊢
    cases hsp : Cd.span s (i : Int) with
    | some x =>
      obtain ⟨t, e⟩ := x
      rw [hsp] at hm
      simp only at hm ⊢
      have hl := span_len hsp
      rw [pm_append, pm_cons, pm_nil]
      exact lin hm.1 (by simp only [eff_none, mass, masses, List.length_nil]; omega)
    | none =>
      rw [hsp] at hm
      simp only at hm ⊢
      have hml := Go.Proofs.YtkfhkfagmokjpaaGreatDoor.mid_len (l := s) (lo := i) (hi := i + Fn.run 96 (s.drop i)) hm.2
      have := pput_mass st.l (Go.Proofs.YtkfhkfagmokjpaaGreatDoor.mid s i (i + Fn.run 96 (s.drop i)))
      exact Nat.le_trans (by rw [Nat.add_assoc] at this; exact this) (lin hm.1 (by omega))
  · rw [if_neg h96] at hm ⊢
    cases ha : (if link = true then none else Lk.auto s (i : Int)) with
    | some x =>
      obtain ⟨t, e⟩ := x
      rw [ha] at hm
      simp only at hm ⊢
      split at ha
      · cases ha
      · have hl := auto_in ha
        have h1 := enc_few (Ru.runes t)
        have h2 := runes_few t.length t (Nat.le_refl _)
        rw [pm_append, pm_cons, pm_nil]
        exact lin hm.1 (by simp only [eff_none, mass, masses, word, List.length_nil]; omega)
    | none =>
      rw [ha] at hm
      simp only at hm ⊢
      cases hl : (if link = true then none else linkAt s i) with
      | some x =>
        obtain ⟨d, j, e⟩ := x
        rw [hl] at hm
        simp only at hm ⊢
        split at hl
        · cases hl
        · rename_i hlf
          have h3 := link_spec hl
          have hml := Go.Proofs.YtkfhkfagmokjpaaGreatDoor.mid_len (l := s) (lo := i + 1) (hi := j) (by omega)
          have hI := hin (by simpa using hlf) (Go.Proofs.YtkfhkfagmokjpaaGreatDoor.mid s (i + 1) j) (by omega)
          have hd : d.length + 4 * (j + 1) ≤ 4 * e := by
            unfold linkAt at hl
            split at hl
            · cases hl
            · split at hl
              · cases hl
              · rename_i hde
                simp only [Option.some.injEq, Prod.mk.injEq] at hl
                obtain ⟨rfl, rfl, rfl⟩ := hl
                exact dest_len (by rw [Int.natCast_add]; exact hde)
          rw [hml] at hI
          rw [pm_append, pm_cons, pm_nil]
          simp only [eff_none, mass, List.length_nil]
          have c1 : C * e = C * i + C * (j - (i + 1)) + C * (e - (j - 1)) := by
            rw [← Nat.mul_add, ← Nat.mul_add]; congr 1; omega
          have c2 : 7 * (e - (j - 1)) ≤ C * (e - (j - 1)) := Nat.mul_le_mul_right _ hC
          omega
      | none =>
        rw [hl] at hm
        simp only at hm ⊢
        cases hk : Em.kind s (i : Int) with
        | some x =>
          obtain ⟨r, e⟩ := x
          rw [hk] at hm
          simp only at hm ⊢
          have hn := kind_n hk
          rw [pm_append, pm_cons, pm_nil]
          exact lin hm.1 (by simp only [none_, eff_some, mass, masses, List.length_nil, List.length_replicate]; omega)
        | none =>
          rw [hk] at hm
          simp only at hm ⊢
          by_cases h10 : s.getD i 0 = 10
          · rw [if_pos h10] at hm ⊢
            rw [pm_append, pm_cons, pm_nil]
            exact lin hm.1 (by simp only [eff_none, mass, masses, List.length_nil]; omega)
          · rw [if_neg h10] at hm ⊢
            have he := Ru.encodeRune_len ((Es.next s i).1 : Int)
            simp only at hm ⊢
            have := pput_mass st.l (encodeRune ((Es.next s i).1 : Int))
            exact Nat.le_trans (by rw [Nat.add_assoc] at this; exact this) (lin hm.1 (by omega))
theorem scanF_mass (link : Bool) (inner : List UInt8 → List In) {C : Nat} (hC : 7 ≤ C) (hin : link = false → InnerM inner C) (hok : link = false → InnerOK inner) {s : List UInt8} (hs : s.length ≤ 4000000) : ∀ (f i : Nat) (st : Sc), i ≤ s.length → ScOK st i → FewS st i → pm st.l ≤ C * i →
    ∃ j, j ≤ s.length ∧ ScOK (scanF link inner f s i st) j ∧ pm (scanF link inner f s i st).l ≤ C * j
  | 0, i, st, hi, h1, _, h3 => ⟨i, hi, h1, h3⟩
  | f + 1, i, st, hi, h1, h2, h3 => by
    unfold scanF
    by_cases h : i < s.length
    · rw [if_pos h]
      have hm := piece_more link inner h st
      obtain ⟨k1, k2⟩ := piece_ok link inner hok hs h h1 h2
      exact scanF_mass link inner hC hin hok hs f _ _ hm.2 k1 k2 (piece_mass link inner hC hin hs h h3)
    · rw [if_neg h]; exact ⟨i, hi, h1, h3⟩
theorem within_mass (link : Bool) (inner : List UInt8 → List In) {C : Nat} (hC : 7 ≤ C) (hin : link = false → InnerM inner C) (hok : link = false → InnerOK inner) : InnerM (within link inner) (C + 100) := by
  intro s hs
  obtain ⟨j, hj, h1, h2⟩ := scanF_mass link inner hC hin hok hs (s.length + 1 - 0) 0 ⟨[], []⟩ (Nat.zero_le _) scok_start ⟨by simp, by simp [weight]⟩ (by simp [pm])
  have hr := h1.rlen
  have h3 := stress_mass (scok_ready h1)
  have h4 : C * j ≤ C * s.length := Nat.mul_le_mul_left _ hj
  have h5 : (C + 100) * s.length = C * s.length + 100 * s.length := Nat.add_mul _ _ _
  unfold within
  show masses (stress (scanF link inner (s.length + 1 - 0) s 0 ⟨[], []⟩).l _) ≤ _
  exact Nat.le_trans h3 (by omega)
/-- all that a text's inlines are -/
theorem parse_mass {s : List UInt8} (hs : s.length ≤ 4000000) : masses (parse s) ≤ 207 * s.length :=
  within_mass false inLink (C := 107) (by omega) (fun _ => within_mass true (fun _ => []) (C := 7) (by omega) (fun h => absurd h (by decide)) (fun h => absurd h (by decide))) (fun _ => within_ok true (fun _ => []) (fun h => absurd h (by decide))) s hs
end Go.Proofs.YtkfhkfagmokjpaaGreatDoor.Il
namespace Go.Proofs.YtkfhkfagmokjpaaGreatDoor.Hm
end Go.Proofs.YtkfhkfagmokjpaaGreatDoor.Hm

namespace Go.Proofs.YtkfhkfagmokjpaaGreatDoor
open Go.RowKit
attribute [local go_sem] canOp readsAs readUpon

set_option maxHeartbeats 8000000 in
set_option maxRecDepth 100000 in
theorem risame_any : ∀ (N : Nat) (ts : List Il.In) (_ : SizeOf.sizeOf ts ≤ N) (_ : ∀ t ∈ ts, Il.Few t) (_ : ts.length ≤ 1000000000) (A B : Option Addr) (c d : Nat) (css dss : List (List Value)) (w : World) (Q : Nat → Prop) (_ : ∀ b, Q b → b < w.heap.size)
    (_ : RowI w Q 4 A ts.length css.flatten) (_ : ICs w Q ts css) (_ : RowI w Q 4 B ts.length dss.flatten) (_ : ICs w Q ts dss),
    Calls Tryz.prog 12 #[.slice A ts.length c, .slice B ts.length d] w fun e w' => e = .returned (.bool true) ∧ Below w.heap.size w w'
  | 0, ts, hN, _, _, _, _, _, _, _, _, _, _, _, _, _, _, _ => by cases ts <;> simp at hN
  | N + 1, ts, hN, hF, hl, A, B, c, d, css, dss, w, Q, hQ, hR, hI, hR2, hI2 => by
    have ih := risame_any N
    replace hR := Lib.hid hR
    replace hI := Lib.hid hI
    replace hR2 := Lib.hid hR2
    replace hI2 := Lib.hid hI2
    have hne : ((ts.length : Int) != (ts.length : Int)) = false := by simp
    go_enter Tryz.func12, Tryz.ntmps12
    go_wp2_with fail
    go_loopw [13] (fun u wr => ∃ k : Nat, k ≤ ts.length ∧ u = .int .i64 (k : Int) ∧ Hid (Below w.heap.size w wr)) (fun u _ => ts.length - (intOf u).toNat)
    case atStart => exact ⟨0, by omega, rfl, Lib.hid (Below.refl _ _)⟩
    case round =>
      obtain ⟨k, hk, rfl, hb⟩ := hrel
      rcases Nat.lt_or_eq_of_le hk with hlt | hke
      · obtain ⟨cs, i1, i2⟩ := ICs_at hI.out hlt
        obtain ⟨ds, j1, j2⟩ := ICs_at hI2.out hlt
        obtain ⟨b1, o1, rfl, hq1, hc1⟩ := hR.out.2 (by omega)
        obtain ⟨b2, o2, rfl, hq2, hc2⟩ := hR2.out.2 (by omega)
        have hFk := hF ts[k] (List.getElem_mem hlt)
        have hNk : SizeOf.sizeOf ts[k] < N + 1 := by have := List.sizeOf_lt_of_mem (List.getElem_mem hlt); omega
        obtain ⟨n, hn⟩ : ∃ n, n = ts.length := ⟨_, rfl⟩
        generalize ts[k] = t at i1 j1 hFk hNk
        rw [← hn] at hne hlt hl ⊢
        clear hn
        obtain ⟨kd, tx, de, ks⟩ := t
        obtain ⟨A1, k1, cs2, rfl, hk1, r1, s1⟩ := IC_form i1
        obtain ⟨A2, k2, ds2, rfl, hk2, r2, s2⟩ := IC_form j1
        have hl1 := hQ _ hq1
        have hl2 := hQ _ hq2
        have hbw := hb.out
        have x0 := (hbw.cell (p := ⟨b1, o1 + (k * 4 + 0), none⟩) hl1).trans (hc1 _ _ (i2 0 (by omega)))
        have x1 := (hbw.cell (p := ⟨b1, o1 + (k * 4 + 1), none⟩) hl1).trans (hc1 _ _ (i2 1 (by omega)))
        have x2 := (hbw.cell (p := ⟨b1, o1 + (k * 4 + 2), none⟩) hl1).trans (hc1 _ _ (i2 2 (by omega)))
        have x3 := (hbw.cell (p := ⟨b1, o1 + (k * 4 + 3), none⟩) hl1).trans (hc1 _ _ (i2 3 (by omega)))
        have y0 := (hbw.cell (p := ⟨b2, o2 + (k * 4 + 0), none⟩) hl2).trans (hc2 _ _ (j2 0 (by omega)))
        have y1 := (hbw.cell (p := ⟨b2, o2 + (k * 4 + 1), none⟩) hl2).trans (hc2 _ _ (j2 1 (by omega)))
        have y2 := (hbw.cell (p := ⟨b2, o2 + (k * 4 + 2), none⟩) hl2).trans (hc2 _ _ (j2 2 (by omega)))
        have y3 := (hbw.cell (p := ⟨b2, o2 + (k * 4 + 3), none⟩) hl2).trans (hc2 _ _ (j2 3 (by omega)))
        simp only [← Nat.add_assoc, Nat.add_zero] at x0 x1 x2 x3 y0 y1 y2 y3
        obtain ⟨_, hF2, hF3⟩ : kd ≤ 1000 ∧ ks.length ≤ 1000000000 ∧ ∀ x ∈ ks, Il.Few x := by cases hFk with | mk a b c => exact ⟨a, b, c⟩
        simp only [Il.In.mk.sizeOf_spec] at hNk
        have hcall := fun w' (hb' : Below w.heap.size w w') => ih ks (by omega) hF3 hF2 A1 A2 k1 k2 cs2 ds2 w' Q (fun b h => Nat.lt_of_lt_of_le (hQ b h) hb'.size) (r1.frame (fun b h => hb'.block b (hQ b h)) (fun _ h => h)) (ICs_frame (fun b h => hb'.block b (hQ b h)) (fun _ h => h) s1)
          (r2.frame (fun b h => hb'.block b (hQ b h)) (fun _ h => h)) (ICs_frame (fun b h => hb'.block b (hQ b h)) (fun _ h => h) s2)
        replace hcall := Lib.hid hcall
        have hl1' : b1 < wr.drew.heap.size := Nat.lt_of_lt_of_le hl1 hbw.size
        have hl2' : b2 < wr.drew.heap.size := Nat.lt_of_lt_of_le hl2 hbw.size
        have hSu : ∀ u, Ext wr.drew u → (u.cell? ⟨b1, o1 + k * 4, none⟩ = some (.int .i64 (kd : Int)) ∧ u.cell? ⟨b1, o1 + k * 4 + 1, none⟩ = some (.string (bs tx)) ∧ u.cell? ⟨b1, o1 + k * 4 + 2, none⟩ = some (.string (bs de)) ∧ u.cell? ⟨b1, o1 + k * 4 + 3, none⟩ = some (.slice A1 ks.length k1)) ∧
            (u.cell? ⟨b2, o2 + k * 4, none⟩ = some (.int .i64 (kd : Int)) ∧ u.cell? ⟨b2, o2 + k * 4 + 1, none⟩ = some (.string (bs tx)) ∧ u.cell? ⟨b2, o2 + k * 4 + 2, none⟩ = some (.string (bs de)) ∧ u.cell? ⟨b2, o2 + k * 4 + 3, none⟩ = some (.slice A2 ks.length k2)) := fun u (hu : Below wr.drew.heap.size wr.drew u) =>
          ⟨⟨(hu.cell (p := ⟨b1, _, none⟩) hl1').trans x0, (hu.cell (p := ⟨b1, _, none⟩) hl1').trans x1, (hu.cell (p := ⟨b1, _, none⟩) hl1').trans x2, (hu.cell (p := ⟨b1, _, none⟩) hl1').trans x3⟩,
           (hu.cell (p := ⟨b2, _, none⟩) hl2').trans y0, (hu.cell (p := ⟨b2, _, none⟩) hl2').trans y1, (hu.cell (p := ⟨b2, _, none⟩) hl2').trans y2, (hu.cell (p := ⟨b2, _, none⟩) hl2').trans y3⟩
        replace hSu := Lib.hid hSu
        have hbd := Lib.hid (ext_trans hbw (ext_drew wr))
        have t0 : ((kd : Int) != (kd : Int)) = false := by simp
        have e1 := bs_eq (a := tx) (b := tx) rfl
        have e2 := bs_eq (a := de) (b := de) rfl
        have hk0 : (0 : Int) ≤ (k : Int) := by omega
        have hk1' : (k : Int) < (n : Int) := by omega
        clear ih hc1 hc2 i1 i2 j1 j2 r1 r2 s1 s2 x0 x1 x2 x3 y0 y1 y2 y3 hFk hF3
        go_upto_region 6 with fail
        refine wp_region_can [(true, 0), (true, 1), (true, 2), (true, 3), (true, 4), (true, 5), (true, 6), (true, 7), (true, 8), (true, 9), (true, 10), (true, 11), (true, 12), (true, 13), (true, 14), (true, 15), (true, 16), (true, 17), (true, 18), (true, 19), (true, 20), (true, 21), (true, 22), (true, 23), (true, 24), (true, 25), (true, 26), (true, 27), (true, 28), (true, 29), (true, 30), (true, 31), (true, 32), (true, 33), (true, 34), (true, 35), (true, 36), (true, 37), (true, 38), (true, 39), (true, 40), (true, 41), (true, 42), (true, 43), (true, 44), (true, 45), (true, 46), (true, 47), (false, 48), (true, 49), (true, 50)] (Ext wr.drew) (Below.refl _ _) (by kernel_rfl) (by kernel_rfl) (by kernel_rfl) (fun _ _ d _ _ h => by cases d <;> exact h) ?_
        repeat (first | refine wpCan_move rfl ?_ | (refine wpCan_cons rfl ?_; intro K hK; go_simp; refine hK _ _ _ ?_; clear hK K))
        refine wpCan_read (.int .i64 (kd : Int)) rfl rfl (Below.refl _ _) (fun u hu => by obtain ⟨⟨u1, u2, u3, u4⟩, v1, v2, v3, v4⟩ := hSu.out u hu; go_simp) ?_
        repeat (first | refine wpCan_move rfl ?_ | (refine wpCan_cons rfl ?_; intro K hK; go_simp; refine hK _ _ _ ?_; clear hK K))
        refine wpCan_read (.int .i64 (kd : Int)) rfl rfl (Below.refl _ _) (fun u hu => by obtain ⟨⟨u1, u2, u3, u4⟩, v1, v2, v3, v4⟩ := hSu.out u hu; go_simp) ?_
        repeat (first | refine wpCan_move rfl ?_ | (refine wpCan_cons rfl ?_; intro K hK; go_simp; refine hK _ _ _ ?_; clear hK K))
        refine wpCan_read (.string (bs tx)) rfl rfl (Below.refl _ _) (fun u hu => by obtain ⟨⟨u1, u2, u3, u4⟩, v1, v2, v3, v4⟩ := hSu.out u hu; go_simp) ?_
        repeat (first | refine wpCan_move rfl ?_ | (refine wpCan_cons rfl ?_; intro K hK; go_simp; refine hK _ _ _ ?_; clear hK K))
        refine wpCan_read (.string (bs tx)) rfl rfl (Below.refl _ _) (fun u hu => by obtain ⟨⟨u1, u2, u3, u4⟩, v1, v2, v3, v4⟩ := hSu.out u hu; go_simp) ?_
        repeat (first | refine wpCan_move rfl ?_ | (refine wpCan_cons rfl ?_; intro K hK; go_simp; refine hK _ _ _ ?_; clear hK K))
        refine wpCan_read (.string (bs de)) rfl rfl (Below.refl _ _) (fun u hu => by obtain ⟨⟨u1, u2, u3, u4⟩, v1, v2, v3, v4⟩ := hSu.out u hu; go_simp) ?_
        repeat (first | refine wpCan_move rfl ?_ | (refine wpCan_cons rfl ?_; intro K hK; go_simp; refine hK _ _ _ ?_; clear hK K))
        refine wpCan_read (.string (bs de)) rfl rfl (Below.refl _ _) (fun u hu => by obtain ⟨⟨u1, u2, u3, u4⟩, v1, v2, v3, v4⟩ := hSu.out u hu; go_simp) ?_
        repeat (first | refine wpCan_move rfl ?_ | (refine wpCan_cons rfl ?_; intro K hK; go_simp; refine hK _ _ _ ?_; clear hK K))
        refine wpCan_read (.slice A1 ks.length k1) rfl rfl (Below.refl _ _) (fun u hu => by obtain ⟨⟨u1, u2, u3, u4⟩, v1, v2, v3, v4⟩ := hSu.out u hu; go_simp) ?_
        repeat (first | refine wpCan_move rfl ?_ | (refine wpCan_cons rfl ?_; intro K hK; go_simp; refine hK _ _ _ ?_; clear hK K))
        refine wpCan_read (.slice A2 ks.length k2) rfl rfl (Below.refl _ _) (fun u hu => by obtain ⟨⟨u1, u2, u3, u4⟩, v1, v2, v3, v4⟩ := hSu.out u hu; go_simp) ?_
        refine wpCan_cons rfl ?_
        intro KK hKK
        go_simp
        refine (hcall.out wr.drew hbd.out).mono ?_
        rintro e w8 ⟨rfl, hb8⟩
        have hb9 := Lib.hid (ext_trans hbd.out hb8)
        refine can_ext hb8 (hKK _ _ _ ?_)
        clear hKK KK
        repeat (first | refine wpCan_move rfl ?_ | (refine wpCan_cons rfl ?_; intro K hK; go_simp; refine hK _ _ _ ?_; clear hK K))
        refine wpCan_nil ?_
        go_wp2_with fail
        go_roundw
        case rel => exact ⟨k + 1, by omega, by go_num, hb9⟩
        case measure => simp [intOf]; omega
      · subst hke
        go_wp2_with fail
        go_ret
        exact ⟨rfl, hb.out⟩
end Go.Proofs.YtkfhkfagmokjpaaGreatDoor

namespace Go.Proofs.YtkfhkfagmokjpaaGreatDoor
open Go.RowKit

set_option maxHeartbeats 16000000 in
set_option maxRecDepth 100000 in
theorem rwithin_T (link : Bool) (hlk : link = true) (inner : List UInt8 → List Il.In) (hin : link = false → WithinOf true inner) : WithinOf link (Il.within link inner) := by
  intro s w hs
  have hsz := bs_size s
  obtain ⟨fin, hfin⟩ : ∃ fin, fin = Il.scan link inner s 0 ⟨[], []⟩ := ⟨_, rfl⟩
  have hfw : Hid (Il.within link inner s = Il.stress fin.l fin.runs) := Lib.hid (by unfold Il.within; rw [← hfin])
  rw [hfw.out]
  have hStart : InW link inner s fin w.heap.size w (.slice none 0 0) (.slice none 0 0) (.int .i64 0) w := ⟨0, ⟨[], []⟩, [], Nat.zero_le _, rfl, Lib.hid (WM.start _ _), Lib.hid Il.scok_start, Lib.hid hfin.symm, Lib.hid (Below.refl _ _)⟩
  replace hin := Lib.hid hin
  replace hlk := Lib.hid hlk
  clear hfin
  go_enter Tryz.func18, Tryz.ntmps18
  go_wp2_with fail
  go_loopw [5, 6, 7] (fun v u z wr => InW link inner s fin w.heap.size w v u z wr) (fun _ _ z _ => s.length - (intOf z).toNat)
  case atStart => exact hStart
  case round =>
    obtain ⟨i, st, css, hi, rfl, hW, hOK, hst, hB⟩ := hrel
    clear hStart
    obtain ⟨A5, c5, rfl, hc5⟩ := own_shape hW.out.parts
    obtain ⟨A6, c6, rfl, hc6⟩ := own_shape hW.out.runs
    have hlen := hOK.out.len
    have hheft := hOK.out.heft
    have hrlen := hOK.out.rlen
    have hwz := hB.out.size
    by_cases hil : i < s.length
    · have hix := run_byte hil
      have hmore := Il.piece_more link inner hil st
      rw [Il.scan_step link inner hil] at hst
      have hgd : s.getD i 0 = s[i] := by simp [List.getD, List.getElem?_eq_getElem hil]
      have hpc : Hid (s[i] ≠ 96 → (if link = true then none else Lk.auto s (i : Int)) = none → (if link = true then none else Il.linkAt s i) = none → Il.piece link inner s i st = (match Em.kind s (i : Int) with
          | some (r, e) => (e, ⟨st.l ++ [⟨Il.none_, some st.runs.length, r.n.toNat, r.ch⟩], st.runs ++ [r]⟩)
          | none => if s.getD i 0 = 10 then (i + 1, ⟨st.l ++ [⟨.mk 5 [] [] [], none, 0, 0⟩], st.runs⟩)
                    else ((Es.next s i).2.1, ⟨Il.pput st.l (Lib.encodeRune ((Es.next s i).1 : Int)), st.runs⟩))) := Lib.hid (fun h1 h2 h3 => by
        unfold Il.piece
        rw [if_neg (by rw [hgd]; exact h1), h2, h3]
        rfl)
      by_cases h96 : s[i] = 96
      · have t0 : ((s[i].toNat : Int) == 96) = true := by rw [h96]; rfl
        have q := rspan_any s (i : Int) (by omega) wr
        have hpe : Il.piece link inner s i st = (match Cd.span s (i : Int) with
            | some (t, e) => (e, ⟨st.l ++ [⟨.mk 1 t [] [], none, 0, 0⟩], st.runs⟩)
            | none => (i + Fn.run 96 (s.drop i), ⟨Il.pput st.l (mid s i (i + Fn.run 96 (s.drop i))), st.runs⟩)) := by
          unfold Il.piece
          rw [if_pos (by rw [hgd]; exact h96)]
          rfl
        cases hspan : Cd.span s (i : Int) with
        | some x =>
          obtain ⟨t, e⟩ := x
          rw [hspan] at q hpe
          unfold spanV at q
          simp only at q hpe
          rw [hpe] at hst hmore
          simp only at hmore
          have htl := Il.span_len hspan
          have hok := Lib.hid (Il.scok_push hOK.out (x := .mk 1 t [] []) hmore.1 (by simp only [Il.tlen]; omega))
          clear hpe hspan hpc hgd h96
          generalize s[i] = ch at *
          go_wp2_with (first | (go_at_call 24; refine q.mono ?_; rintro e1 w1 ⟨rfl, rfl⟩) | (at_builtin; refine wpList_app_two rfl (.tmp 58) (.tmp 62) rfl partEI rfl hW.out.parts rfl (by simp) rfl (by intro y hy; simp at hy; rcases hy with rfl | rfl | rfl | rfl | rfl | rfl | rfl <;> rfl) (by omega) (by omega) (by omega) ?_; intro v7 w7 ho7 hg7 hb7 hat7))
          have hWn := Lib.hid (hW.out.push hg7.out ho7 hat7.out (PC_bare _ _ 1 t [] none 0 0))
          have hBn := Lib.hid (hB.out.trans hb7)
          clear ho7 hg7 hb7 hat7
          go_wp2_with fail
          go_roundw
          case rel => exact ⟨e, _, _, hmore.2, rfl, hWn, hok, hst, hBn⟩
          case measure => simp [intOf]; omega
        | none =>
          rw [hspan] at q hpe
          unfold spanV at q
          simp only at q hpe
          rw [hpe] at hst hmore
          simp only at hmore
          have q2 := fun w => rrun_any s i 96 w (by omega) (by omega)
          obtain ⟨n, hn⟩ : ∃ n, n = Fn.run 96 (s.drop i) := ⟨_, rfl⟩
          rw [← hn] at q2 hst hmore
          have hmid : ∀ w : World, (Instr.slice 9 (.string (bs s)) (some (.int .i64 (i : Int))) (some (.int .i64 ((i : Int) + (n : Int)))) none).run Tryz.prog w = .ok (.string (bs (mid s i (i + n)))) w := by
            intro w
            have := run_mid (S := s) (i := i) (j := i + n) (by omega) (by omega) w
            rwa [show ((i + n : Nat) : Int) = (i : Int) + (n : Int) by omega] at this
          have hml := mid_len (l := s) (lo := i) (hi := i + n) (by omega)
          obtain ⟨T, hT⟩ : ∃ T, T = mid s i (i + n) := ⟨_, rfl⟩
          rw [← hT] at hst hmid hml
          have hok := Lib.hid (Il.scok_put hOK.out (s := T) hmore.1 (by omega))
          have q3 := rpput_any st.l T A5 c5 css wr w.heap.size (QW w.heap.size (.slice A5 st.l.length c5) (.slice A6 st.runs.length c6) wr) (fun b hb => ⟨hb.2.1, fun o sp e => hb.2.2.1 (by rw [e]; rfl)⟩) (by omega) (by omega) hwz hW.out.parts hW.out.kids
          clear hpe hspan hpc hgd h96 hn hT
          generalize s[i] = ch at *
          go_wp2_with (first | (go_at_call 24; refine q.mono ?_; rintro e1 w1 ⟨rfl, rfl⟩) | (go_at_call 25; refine (q2 _).mono ?_; rintro e1 w1 ⟨rfl, rfl⟩))
          refine q3.mono ?_
          rintro e1 w1 ⟨⟨v7, rfl, css7, ho7, hP7, hat7⟩, hg7, hb7⟩
          have hWn := Lib.hid (hW.out.put hg7 ho7 hP7 hat7)
          have hBn := Lib.hid (hB.out.trans hb7)
          clear ho7 hP7 hat7 hg7 hb7 q q2 q3
          go_wp2_with fail
          go_roundw
          case rel => exact ⟨i + n, _, _, hmore.2, by go_num, hWn, hok, hst, hBn⟩
          case measure => simp [intOf]; omega
      · have t0 : ((s[i].toNat : Int) == 96) = false := byte_ne (n := 96) (by omega) h96
        cases link with
        | true =>
          have hpe0 := hpc.out h96 rfl rfl
          obtain ⟨ta, ea, oka, hva⟩ := spanV_form (Lk.auto s (i : Int))
          obtain ⟨jc, okc, hvc⟩ := placeV_form (Lk.close s (i : Int))
          have qa := fun w => rauto_any s (i : Int) (by omega) w
          have qc := fun w => rclose_any s (i : Int) (by omega) w
          rw [hva] at qa
          rw [hvc] at qc
          clear hva hvc hin hpc
          have hchz : Hid True := Lib.hid trivial
          cases oka <;> cases okc
          all_goals
            go_wp2_with fail
            refine (qa _).mono ?_
            rintro e1 w1 ⟨rfl, hb1⟩
            have hE1 := Lib.hid hb1
            clear hb1
            go_wp2_with fail
            refine (qc _).mono ?_
            rintro e1 wz ⟨rfl, hb2⟩
            have hEz := Ext.trans hE1.out hb2
            have hWz := Lib.hid (hW.out.ext hEz)
            have hBz := Lib.hid (hB.out.trans (hEz.mono hwz))
            clear hE1 hb2 hEz qa qc
            have hwzz := hBz.out.size
            have qk := rkind_any s (i : Int) (by omega) wz
            cases hk : Em.kind s (i : Int) with
            | some x =>
              obtain ⟨r, e⟩ := x
              obtain ⟨ke1, ke2⟩ := Il.kind_spec hk
              have hrn := Il.kind_n hk
              have hpe : Il.piece true inner s i st = (e, ⟨st.l ++ [⟨Il.none_, some st.runs.length, r.n.toNat, r.ch⟩], st.runs ++ [r]⟩) := by rw [hpe0, hk]
              rw [hpe] at hst
              have hok := Il.scok_run hOK.out ke1 hrn (by omega)
              rw [hk] at qk
              obtain ⟨rc, rn, ro, rx⟩ := r
              obtain ⟨m, hm⟩ : ∃ m : Nat, m = e - i := ⟨_, rfl⟩
              simp only at hrn
              rw [← hm] at hrn
              have hmm : m ≤ 4000000 := by omega
              replace hm := Lib.hid hm
              subst hrn
              simp only [Int.toNat_natCast] at hst hok
              replace hok := Lib.hid hok
              replace hst := Lib.hid hst.out
              unfold kindV aval at qk
              simp only at qk
              clear hk hpe hpe0
              go_wp2_with fail
              refine qk.mono ?_
              rintro e1 wk ⟨rfl, hbk⟩
              clear qk
              have hWk := hWz.out.ext hbk
              have hBk := hBz.out.trans (hbk.mono (by omega))
              go_upto_region 25 with fail
              generalize hwa : World.alloc wk _ = wa
              have hba : Ext wk wa := by rw [← hwa]; exact ext_alloc _ _
              have hloc : wa.heap[wk.heap.size]? = some (.cells #[.int .u8 (rc.toNat : Int), .int .i64 (m : Int), .bool ro, .bool rx] 74 (0, 0)) := by rw [← hwa]; exact heap_alloc_new _ _
              have hWa := hWk.ext hba
              have hBa := hBk.trans (hba.mono (by have := hBk.size; omega))
              have hkg : wk.heap.size < wa.heap.size := (Array.getElem?_eq_some_iff.1 hloc).1
              have hne5 : (Value.slice A5 st.l.length c5).ownBlock ≠ some wk.heap.size := fun h => by have := (hWk.parts.lt _ h).2; omega
              obtain ⟨z0, z1, z2, z3⟩ := four hloc
              have hBaz := hBa.size
              generalize wk.heap.size = gk at *
              replace hWa := Lib.hid hWa
              replace hBa := Lib.hid hBa
              replace hloc := Lib.hid hloc
              replace hne5 := Lib.hid hne5
              clear hwa hWk hBk hba hbk
              go_upto_region 27 with (at_builtin; refine wpList_app_two rfl (.tmp 131) (.tmp 139) rfl partEI rfl hWa.out.parts rfl (by simp) rfl (by intro y hy; simp at hy; rcases hy with rfl | rfl | rfl | rfl | rfl | rfl | rfl <;> rfl) (by omega) (by omega) (by omega) ?_; intro v7 w7 ho7 hg7 hb7 hat7)
              have hWb := hWa.out.push hg7.out ho7 hat7.out (PC_bare _ _ 0 [] [] (some st.runs.length) m rc)
              have hBb := hBa.out.trans hb7
              have hloc7 := (hg7.out.block gk hkg (fun h => hne5.out h.symm)).trans hloc.out
              obtain ⟨z0, z1, z2, z3⟩ := four hloc7
              have hBbz := hBb.size
              replace hWb := Lib.hid hWb
              replace hBb := Lib.hid hBb
              clear ho7 hg7 hb7 hat7 hWa hBa hloc hne5 hloc7
              go_upto_region 28 with (at_builtin; refine wpList_app_two rfl (.tmp 141) (.tmp 143) rfl wrunEI rfl hWb.out.runs rfl (by simp) rfl (by intro y hy; simp at hy; rcases hy with rfl | rfl | rfl | rfl <;> rfl) (by simp only; omega) (by omega) (by omega) ?_; intro v8 w8 ho8 hg8 hb8 hat8)
              have hWc := Lib.hid (hWb.out.pushRun (r := ⟨rc, (m : Int), ro, rx⟩) hg8.out ho8 rfl hat8.out)
              have hBc := Lib.hid (hBb.out.trans hb8)
              clear ho8 hg8 hb8 hat8
              go_wp2_with fail
              go_roundw
              case rel => exact ⟨e, _, _, ke2, rfl, hWc, hok, hst, hBc⟩
              case measure => simp [intOf]; omega
            | none =>
              rw [hk] at qk
              unfold kindV at qk
              simp only at qk
              by_cases h10 : s[i] = 10
              · have hpe : Il.piece true inner s i st = (i + 1, ⟨st.l ++ [⟨.mk 5 [] [] [], none, 0, 0⟩], st.runs⟩) := by rw [hpe0, hk]; simp only; rw [if_pos (by rw [hgd]; exact h10)]
                rw [hpe] at hst
                have hok := Lib.hid (Il.scok_push hOK.out (x := .mk 5 [] [] []) (show i < i + 1 by omega) (by simp [Il.tlen]))
                have t9 : ((s[i].toNat : Int) == 10) = true := by rw [h10]; rfl
                clear hk hpe hpe0 hgd h10
                generalize s[i] = ch at *
                go_wp2_with fail
                refine qk.mono ?_
                rintro e1 wk ⟨rfl, hbk⟩
                have hWk := hWz.out.ext hbk
                have hBk := hBz.out.trans (hbk.mono (by omega))
                go_upto_region 25 with fail
                generalize hwa : World.alloc wk _ = wa
                have hba : Ext wk wa := by rw [← hwa]; exact ext_alloc _ _
                have hWa := Lib.hid (hWk.ext hba)
                have hBa := Lib.hid (hBk.trans (hba.mono (by have := hBk.size; omega)))
                have hBaz := hBa.out.size
                clear hwa hWk hBk hba hbk qk
                go_upto_region 31 with (at_builtin; refine wpList_app_two rfl (.tmp 150) (.tmp 153) rfl partEI rfl hWa.out.parts rfl (by simp) rfl (by intro y hy; simp at hy; rcases hy with rfl | rfl | rfl | rfl | rfl | rfl | rfl <;> rfl) (by omega) (by omega) (by omega) ?_; intro v7 w7 ho7 hg7 hb7 hat7)
                have hWb := Lib.hid (hWa.out.push hg7.out ho7 hat7.out (PC_bare _ _ 5 [] [] none 0 0))
                have hBb := Lib.hid (hBa.out.trans hb7)
                clear ho7 hg7 hb7 hat7
                go_wp2_with fail
                go_roundw
                case rel => exact ⟨i + 1, _, _, by omega, by go_num, hWb, hok, hst, hBb⟩
                case measure => simp [intOf]; omega
              · have hpe : Il.piece true inner s i st = ((Es.next s i).2.1, ⟨Il.pput st.l (Lib.encodeRune ((Es.next s i).1 : Int)), st.runs⟩) := by rw [hpe0, hk]; simp only; rw [if_neg (by rw [hgd]; exact h10)]
                rw [hpe] at hst
                have hnm := Es.next_more hil
                have hel := Ru.encodeRune_len ((Es.next s i).1 : Int)
                have hok := Lib.hid (Il.scok_put hOK.out (s := Lib.encodeRune ((Es.next s i).1 : Int)) hnm.1 (by omega))
                have t9 : ((s[i].toNat : Int) == 10) = false := byte_ne (n := 10) (by omega) h10
                have qn := fun w => rnext_any s (i : Int) (by omega) w
                unfold nextV at qn
                rw [Int.toNat_natCast] at qn
                generalize (Es.next s i).1 = nx at *
                generalize (Es.next s i).2.1 = ne at *
                generalize (Es.next s i).2.2 = nf at *
                have hcv : ∀ w : World, (convert 69 9 (.slice (some ⟨w.heap.size, 0, none⟩) 1 1)).run Tryz.prog (w.alloc (.cells #[.int .i32 (nx : Int)] 21)) = .ok (.string (bs (Lib.encodeRune (nx : Int)))) (w.alloc (.cells #[.int .i32 (nx : Int)] 21)) := by
                  intro w
                  have h1 := run_runes (P := Tryz.prog) (X := [nx]) (c := 1) (Row.fresh w 21 #[.int .i32 (nx : Int)] (0, 0) (n := 1) (xs := rcells [nx]) rfl rfl) 69 21 9 (by kernel_rfl) (by kernel_rfl) (by kernel_rfl)
                  rw [h1]
                  congr 2
                  simp [Ru.enc]
                obtain ⟨T, hT⟩ : ∃ T, T = Lib.encodeRune (nx : Int) := ⟨_, rfl⟩
                rw [← hT] at hst hel hcv hok
                have q3 := fun (w3 : World) (h3 : Ext wz w3) => rpput_any st.l T A5 c5 css w3 w.heap.size (QW w.heap.size (.slice A5 st.l.length c5) (.slice A6 st.runs.length c6) w3) (fun b hb => ⟨hb.2.1, fun o sp e => hb.2.2.1 (by rw [e]; rfl)⟩) (by omega) (by omega) (by have := h3.size; omega) (hWz.out.ext h3).parts (hWz.out.ext h3).kids
                clear hk hpe hpe0 hgd h10 hT
                generalize s[i] = ch at *
                replace q3 := Lib.hid q3
                go_wp2_with fail
                refine qk.mono ?_
                rintro e1 wk ⟨rfl, hbk⟩
                go_upto_region 25 with fail
                generalize hwa : World.alloc wk _ = wa
                have hba : Ext wz wa := by rw [← hwa]; exact Ext.trans hbk (ext_alloc _ _)
                replace hba := Lib.hid hba
                clear hwa hbk qk
                go_wp2_with fail
                refine (qn _).mono ?_
                rintro e1 wn ⟨rfl, hbn⟩
                have hban := Lib.hid (Ext.trans hba.out hbn)
                clear hbn qn
                go_wp2_with fail
                refine (q3.out _ (Ext.trans hban.out (ext_alloc _ _))).mono ?_
                rintro e1 w1 ⟨⟨v7, rfl, css7, ho7, hP7, hat7⟩, hg7, hb7⟩
                have hWn := Lib.hid ((hWz.out.ext (Ext.trans hban.out (ext_alloc _ _))).put hg7 ho7 hP7 hat7)
                have hBn := Lib.hid ((hBz.out.trans ((Ext.trans hban.out (ext_alloc _ _)).mono (by omega))).trans hb7)
                clear ho7 hP7 hat7 hg7 hb7 q3
                go_wp2_with fail
                go_roundw
                case rel => exact ⟨ne, _, _, hnm.2, rfl, hWn, hok, hst, hBn⟩
                case measure => simp [intOf]; omega
        | false => exact absurd hlk.out (by decide)
    · have hie : i = s.length := by omega
      have hse := Il.scan_end link inner (show s.length ≤ i by omega) st
      rw [hse] at hst
      have hfe := hst.out
      subst hfe
      have q := rstress_any st.l st.runs A5 A6 c5 c6 css wr w.heap.size hwz hW.out.parts (PCs_frame (fun _ _ => rfl) (fun _ hb => ⟨hb.1, hb.2.1, hb.2.2.1⟩) hW.out.kids) (Row.own hW.out.runs) (by omega) (Il.scok_ready hOK.out) (by omega) (by omega)
      clear hst hse
      have t1 : decide ((i : Int) < (s.length : Int)) = false := decide_eq_false (by omega)
      have t2 : decide (i < s.length) = false := decide_eq_false (by omega)
      clear hie
      go_wp2_with fail
      refine q.mono ?_
      rintro e1 w1 ⟨⟨v1, rfl, cs1, ho1, hI1⟩, hb1⟩
      have hB1 := Lib.hid (hB.out.trans hb1)
      replace ho1 := Lib.hid ho1
      replace hI1 := Lib.hid hI1
      clear hb1
      go_wp2_with fail
      go_ret
      exact ⟨⟨_, rfl, cs1, ho1.out, hI1.out⟩, hB1.out⟩
end Go.Proofs.YtkfhkfagmokjpaaGreatDoor

namespace Go.Proofs.YtkfhkfagmokjpaaGreatDoor
open Go.RowKit

set_option maxHeartbeats 16000000 in
set_option maxRecDepth 100000 in
theorem rwithin_F (link : Bool) (hlk : link = false) (inner : List UInt8 → List Il.In) (hin : link = false → WithinOf true inner) : WithinOf link (Il.within link inner) := by
  intro s w hs
  have hsz := bs_size s
  obtain ⟨fin, hfin⟩ : ∃ fin, fin = Il.scan link inner s 0 ⟨[], []⟩ := ⟨_, rfl⟩
  have hfw : Hid (Il.within link inner s = Il.stress fin.l fin.runs) := Lib.hid (by unfold Il.within; rw [← hfin])
  rw [hfw.out]
  have hStart : InW link inner s fin w.heap.size w (.slice none 0 0) (.slice none 0 0) (.int .i64 0) w := ⟨0, ⟨[], []⟩, [], Nat.zero_le _, rfl, Lib.hid (WM.start _ _), Lib.hid Il.scok_start, Lib.hid hfin.symm, Lib.hid (Below.refl _ _)⟩
  replace hin := Lib.hid hin
  replace hlk := Lib.hid hlk
  clear hfin
  go_enter Tryz.func18, Tryz.ntmps18
  go_wp2_with fail
  go_loopw [5, 6, 7] (fun v u z wr => InW link inner s fin w.heap.size w v u z wr) (fun _ _ z _ => s.length - (intOf z).toNat)
  case atStart => exact hStart
  case round =>
    obtain ⟨i, st, css, hi, rfl, hW, hOK, hst, hB⟩ := hrel
    clear hStart
    obtain ⟨A5, c5, rfl, hc5⟩ := own_shape hW.out.parts
    obtain ⟨A6, c6, rfl, hc6⟩ := own_shape hW.out.runs
    have hlen := hOK.out.len
    have hheft := hOK.out.heft
    have hrlen := hOK.out.rlen
    have hwz := hB.out.size
    by_cases hil : i < s.length
    · have hix := run_byte hil
      have hmore := Il.piece_more link inner hil st
      rw [Il.scan_step link inner hil] at hst
      have hgd : s.getD i 0 = s[i] := by simp [List.getD, List.getElem?_eq_getElem hil]
      have hpc : Hid (s[i] ≠ 96 → (if link = true then none else Lk.auto s (i : Int)) = none → (if link = true then none else Il.linkAt s i) = none → Il.piece link inner s i st = (match Em.kind s (i : Int) with
          | some (r, e) => (e, ⟨st.l ++ [⟨Il.none_, some st.runs.length, r.n.toNat, r.ch⟩], st.runs ++ [r]⟩)
          | none => if s.getD i 0 = 10 then (i + 1, ⟨st.l ++ [⟨.mk 5 [] [] [], none, 0, 0⟩], st.runs⟩)
                    else ((Es.next s i).2.1, ⟨Il.pput st.l (Lib.encodeRune ((Es.next s i).1 : Int)), st.runs⟩))) := Lib.hid (fun h1 h2 h3 => by
        unfold Il.piece
        rw [if_neg (by rw [hgd]; exact h1), h2, h3]
        rfl)
      by_cases h96 : s[i] = 96
      · have t0 : ((s[i].toNat : Int) == 96) = true := by rw [h96]; rfl
        have q := rspan_any s (i : Int) (by omega) wr
        have hpe : Il.piece link inner s i st = (match Cd.span s (i : Int) with
            | some (t, e) => (e, ⟨st.l ++ [⟨.mk 1 t [] [], none, 0, 0⟩], st.runs⟩)
            | none => (i + Fn.run 96 (s.drop i), ⟨Il.pput st.l (mid s i (i + Fn.run 96 (s.drop i))), st.runs⟩)) := by
          unfold Il.piece
          rw [if_pos (by rw [hgd]; exact h96)]
          rfl
        cases hspan : Cd.span s (i : Int) with
        | some x =>
          obtain ⟨t, e⟩ := x
          rw [hspan] at q hpe
          unfold spanV at q
          simp only at q hpe
          rw [hpe] at hst hmore
          simp only at hmore
          have htl := Il.span_len hspan
          have hok := Lib.hid (Il.scok_push hOK.out (x := .mk 1 t [] []) hmore.1 (by simp only [Il.tlen]; omega))
          clear hpe hspan hpc hgd h96
          generalize s[i] = ch at *
          go_wp2_with (first | (go_at_call 24; refine q.mono ?_; rintro e1 w1 ⟨rfl, rfl⟩) | (at_builtin; refine wpList_app_two rfl (.tmp 58) (.tmp 62) rfl partEI rfl hW.out.parts rfl (by simp) rfl (by intro y hy; simp at hy; rcases hy with rfl | rfl | rfl | rfl | rfl | rfl | rfl <;> rfl) (by omega) (by omega) (by omega) ?_; intro v7 w7 ho7 hg7 hb7 hat7))
          have hWn := Lib.hid (hW.out.push hg7.out ho7 hat7.out (PC_bare _ _ 1 t [] none 0 0))
          have hBn := Lib.hid (hB.out.trans hb7)
          clear ho7 hg7 hb7 hat7
          go_wp2_with fail
          go_roundw
          case rel => exact ⟨e, _, _, hmore.2, rfl, hWn, hok, hst, hBn⟩
          case measure => simp [intOf]; omega
        | none =>
          rw [hspan] at q hpe
          unfold spanV at q
          simp only at q hpe
          rw [hpe] at hst hmore
          simp only at hmore
          have q2 := fun w => rrun_any s i 96 w (by omega) (by omega)
          obtain ⟨n, hn⟩ : ∃ n, n = Fn.run 96 (s.drop i) := ⟨_, rfl⟩
          rw [← hn] at q2 hst hmore
          have hmid : ∀ w : World, (Instr.slice 9 (.string (bs s)) (some (.int .i64 (i : Int))) (some (.int .i64 ((i : Int) + (n : Int)))) none).run Tryz.prog w = .ok (.string (bs (mid s i (i + n)))) w := by
            intro w
            have := run_mid (S := s) (i := i) (j := i + n) (by omega) (by omega) w
            rwa [show ((i + n : Nat) : Int) = (i : Int) + (n : Int) by omega] at this
          have hml := mid_len (l := s) (lo := i) (hi := i + n) (by omega)
          obtain ⟨T, hT⟩ : ∃ T, T = mid s i (i + n) := ⟨_, rfl⟩
          rw [← hT] at hst hmid hml
          have hok := Lib.hid (Il.scok_put hOK.out (s := T) hmore.1 (by omega))
          have q3 := rpput_any st.l T A5 c5 css wr w.heap.size (QW w.heap.size (.slice A5 st.l.length c5) (.slice A6 st.runs.length c6) wr) (fun b hb => ⟨hb.2.1, fun o sp e => hb.2.2.1 (by rw [e]; rfl)⟩) (by omega) (by omega) hwz hW.out.parts hW.out.kids
          clear hpe hspan hpc hgd h96 hn hT
          generalize s[i] = ch at *
          go_wp2_with (first | (go_at_call 24; refine q.mono ?_; rintro e1 w1 ⟨rfl, rfl⟩) | (go_at_call 25; refine (q2 _).mono ?_; rintro e1 w1 ⟨rfl, rfl⟩))
          refine q3.mono ?_
          rintro e1 w1 ⟨⟨v7, rfl, css7, ho7, hP7, hat7⟩, hg7, hb7⟩
          have hWn := Lib.hid (hW.out.put hg7 ho7 hP7 hat7)
          have hBn := Lib.hid (hB.out.trans hb7)
          clear ho7 hP7 hat7 hg7 hb7 q q2 q3
          go_wp2_with fail
          go_roundw
          case rel => exact ⟨i + n, _, _, hmore.2, by go_num, hWn, hok, hst, hBn⟩
          case measure => simp [intOf]; omega
      · have t0 : ((s[i].toNat : Int) == 96) = false := byte_ne (n := 96) (by omega) h96
        cases link with
        | true => exact absurd hlk.out (by decide)
        | false =>
          have qa := fun w => rauto_any s (i : Int) (by omega) w
          cases hau : Lk.auto s (i : Int) with
          | some x =>
            obtain ⟨t, e⟩ := x
            have hsp := Lk.auto_spec hau
            have hpe : Il.piece false inner s i st = (e, ⟨st.l ++ [⟨.mk 4 [] t [Il.word (Ru.enc (Ru.runes t))], none, 0, 0⟩], st.runs⟩) := by
              unfold Il.piece
              rw [if_neg (by rw [hgd]; exact h96), if_neg (by decide), hau]
            rw [hpe] at hst
            have hok := Lib.hid (Il.scok_push hOK.out (x := .mk 4 [] t [Il.word (Ru.enc (Ru.runes t))]) hsp.1 (by simp [Il.tlen]))
            have htl := Il.auto_len hau
            rw [hau] at qa
            unfold spanV at qa
            simp only at qa
            have qr := fun w => rrunes_any t w (by omega)
            have hle := hsp.2.1
            have hie := hsp.1
            clear hau hpe hpc hgd h96 hsp hin
            generalize s[i] = ch at *
            go_wp2_with fail
            refine (qa _).mono ?_
            rintro e1 w1 ⟨rfl, hb1⟩
            have hE1 := Lib.hid hb1
            have hz1 := hb1.size
            clear hb1 qa
            go_wp2_with fail
            refine (qr _).mono ?_
            rintro e1 w2 ⟨⟨vR, rfl, hoR⟩, hb2⟩
            obtain ⟨AR, cR, rfl, hcR⟩ := own_shape hoR
            have hcv := run_runes (P := Tryz.prog) (c := cR) (Row.own hoR) 69 21 9 (by kernel_rfl) (by kernel_rfl) (by kernel_rfl)
            have hE2 := Lib.hid (Ext.trans hE1.out hb2)
            have hz2 := hb2.size
            obtain ⟨T, hT⟩ : ∃ T, T = Ru.enc (Ru.runes t) := ⟨_, rfl⟩
            rw [← hT] at hcv hst hok
            clear hoR hb2 qr hT
            go_upto_region 16 with fail
            generalize hw3 : World.alloc w2 _ = w3
            have hb3 : Ext w2 w3 := by rw [← hw3]; exact ext_alloc _ _
            have hloc : w3.heap[w2.heap.size]? = some (.cells #[.int .i64 0, .string (bs T), .string ⟨#[]⟩, .slice none 0 0] 41 (0, 0)) := by rw [← hw3]; exact heap_alloc_new _ _
            have hE3 := Ext.trans hE2.out hb3
            have hW3 := hW.out.ext hE3
            have hB3 := Lib.hid (hB.out.trans (hE3.mono hwz))
            have hkg : w2.heap.size < w3.heap.size := (Array.getElem?_eq_some_iff.1 hloc).1
            have hq : QW w.heap.size (.slice A5 st.l.length c5) (.slice A6 st.runs.length c6) w3 w2.heap.size := ⟨by omega, hkg, fun h => by have := (hW.out.parts.lt _ h).2; omega, fun h => by have := (hW.out.runs.lt _ h).2; omega⟩
            have hpc : PC w3 (QW w.heap.size (.slice A5 st.l.length c5) (.slice A6 st.runs.length c6) w3) ⟨.mk 4 [] t [Il.word T], none, 0, 0⟩ [.int .i64 ((4 : Nat) : Int), .string (bs []), .string (bs t), .slice (some ⟨w2.heap.size, 0, none⟩) 1 1, .int .i64 (runI none), .int .i64 ((0 : Nat) : Int), .int .u8 ((0 : UInt8).toNat : Int)] := by
              refine ⟨[.int .i64 ((4 : Nat) : Int), .string (bs []), .string (bs t), .slice (some ⟨w2.heap.size, 0, none⟩) 1 1], ?_, rfl⟩
              unfold IC
              refine ⟨some ⟨w2.heap.size, 0, none⟩, 1, [[.int .i64 0, .string (bs T), .string ⟨#[]⟩, .slice none 0 0]], rfl, Nat.le_refl _, ⟨rfl, fun _ => ⟨w2.heap.size, 0, rfl, hq, fun j x hx => ?_⟩⟩, ?_⟩
              · rw [Nat.zero_add, blk_cell hloc]; simpa using hx
              · unfold ICs
                refine ⟨_, [], rfl, ?_, ICs_nil⟩
                unfold Il.word IC
                exact ⟨none, 0, [], rfl, Nat.le_refl _, ⟨rfl, fun h => by simp at h⟩, ICs_nil⟩
            have hz3 := hb3.size
            replace hW3 := Lib.hid hW3
            replace hpc := Lib.hid hpc
            generalize w2.heap.size = gk at *
            clear hw3 hb3 hloc hE3 hE2 hE1 hq hcv
            go_upto_region 17 with (at_builtin; refine wpList_app_two rfl (.tmp 82) (.tmp 87) rfl partEI rfl hW3.out.parts rfl (by simp) rfl (by intro y hy; simp at hy; rcases hy with rfl | rfl | rfl | rfl | rfl | rfl | rfl <;> rfl) (by omega) (by omega) (by omega) ?_; intro v7 w7 ho7 hg7 hb7 hat7)
            have hWn := Lib.hid (hW3.out.push hg7.out ho7 hat7.out hpc.out)
            have hBn := Lib.hid (hB3.out.trans hb7)
            clear ho7 hg7 hb7 hat7 hW3 hpc hB3
            go_wp2_with fail
            go_roundw
            case rel => exact ⟨e, _, _, hle, rfl, hWn, hok, hst, hBn⟩
            case measure => simp [intOf]; omega
          | none =>
            have qc := fun w => rclose_any s (i : Int) (by omega) w
            rw [hau] at qa
            unfold spanV at qa
            simp only at qa
            cases hcl : Lk.close s (i : Int) with
            | none =>
              have hpe0 := hpc.out h96 (by rw [if_neg (by decide)]; exact hau) (by rw [if_neg (by decide)]; unfold Il.linkAt; rw [hcl])
              rw [hcl] at qc
              unfold placeV at qc
              simp only at qc
              clear hau hcl hin hpc
              go_wp2_with fail
              refine (qa _).mono ?_
              rintro e1 w1 ⟨rfl, hb1⟩
              have hE1 := Lib.hid hb1
              clear hb1
              go_wp2_with fail
              refine (qc _).mono ?_
              rintro e1 wz ⟨rfl, hb2⟩
              have hEz := Ext.trans hE1.out hb2
              have hWz := Lib.hid (hW.out.ext hEz)
              have hBz := Lib.hid (hB.out.trans (hEz.mono hwz))
              clear hE1 hb2 hEz qa qc
              have hwzz := hBz.out.size
              have qk := rkind_any s (i : Int) (by omega) wz
              cases hk : Em.kind s (i : Int) with
              | some x =>
                obtain ⟨r, e⟩ := x
                obtain ⟨ke1, ke2⟩ := Il.kind_spec hk
                have hrn := Il.kind_n hk
                have hpe : Il.piece false inner s i st = (e, ⟨st.l ++ [⟨Il.none_, some st.runs.length, r.n.toNat, r.ch⟩], st.runs ++ [r]⟩) := by rw [hpe0, hk]
                rw [hpe] at hst
                have hok := Il.scok_run hOK.out ke1 hrn (by omega)
                rw [hk] at qk
                obtain ⟨rc, rn, ro, rx⟩ := r
                obtain ⟨m, hm⟩ : ∃ m : Nat, m = e - i := ⟨_, rfl⟩
                simp only at hrn
                rw [← hm] at hrn
                have hmm : m ≤ 4000000 := by omega
                replace hm := Lib.hid hm
                subst hrn
                simp only [Int.toNat_natCast] at hst hok
                replace hok := Lib.hid hok
                replace hst := Lib.hid hst.out
                unfold kindV aval at qk
                simp only at qk
                clear hk hpe hpe0
                go_wp2_with fail
                refine qk.mono ?_
                rintro e1 wk ⟨rfl, hbk⟩
                clear qk
                have hWk := hWz.out.ext hbk
                have hBk := hBz.out.trans (hbk.mono (by omega))
                go_upto_region 25 with fail
                generalize hwa : World.alloc wk _ = wa
                have hba : Ext wk wa := by rw [← hwa]; exact ext_alloc _ _
                have hloc : wa.heap[wk.heap.size]? = some (.cells #[.int .u8 (rc.toNat : Int), .int .i64 (m : Int), .bool ro, .bool rx] 74 (0, 0)) := by rw [← hwa]; exact heap_alloc_new _ _
                have hWa := hWk.ext hba
                have hBa := hBk.trans (hba.mono (by have := hBk.size; omega))
                have hkg : wk.heap.size < wa.heap.size := (Array.getElem?_eq_some_iff.1 hloc).1
                have hne5 : (Value.slice A5 st.l.length c5).ownBlock ≠ some wk.heap.size := fun h => by have := (hWk.parts.lt _ h).2; omega
                obtain ⟨z0, z1, z2, z3⟩ := four hloc
                have hBaz := hBa.size
                generalize wk.heap.size = gk at *
                replace hWa := Lib.hid hWa
                replace hBa := Lib.hid hBa
                replace hloc := Lib.hid hloc
                replace hne5 := Lib.hid hne5
                clear hwa hWk hBk hba hbk
                go_upto_region 27 with (at_builtin; refine wpList_app_two rfl (.tmp 131) (.tmp 139) rfl partEI rfl hWa.out.parts rfl (by simp) rfl (by intro y hy; simp at hy; rcases hy with rfl | rfl | rfl | rfl | rfl | rfl | rfl <;> rfl) (by omega) (by omega) (by omega) ?_; intro v7 w7 ho7 hg7 hb7 hat7)
                have hWb := hWa.out.push hg7.out ho7 hat7.out (PC_bare _ _ 0 [] [] (some st.runs.length) m rc)
                have hBb := hBa.out.trans hb7
                have hloc7 := (hg7.out.block gk hkg (fun h => hne5.out h.symm)).trans hloc.out
                obtain ⟨z0, z1, z2, z3⟩ := four hloc7
                have hBbz := hBb.size
                replace hWb := Lib.hid hWb
                replace hBb := Lib.hid hBb
                clear ho7 hg7 hb7 hat7 hWa hBa hloc hne5 hloc7
                go_upto_region 28 with (at_builtin; refine wpList_app_two rfl (.tmp 141) (.tmp 143) rfl wrunEI rfl hWb.out.runs rfl (by simp) rfl (by intro y hy; simp at hy; rcases hy with rfl | rfl | rfl | rfl <;> rfl) (by simp only; omega) (by omega) (by omega) ?_; intro v8 w8 ho8 hg8 hb8 hat8)
                have hWc := Lib.hid (hWb.out.pushRun (r := ⟨rc, (m : Int), ro, rx⟩) hg8.out ho8 rfl hat8.out)
                have hBc := Lib.hid (hBb.out.trans hb8)
                clear ho8 hg8 hb8 hat8
                go_wp2_with fail
                go_roundw
                case rel => exact ⟨e, _, _, ke2, rfl, hWc, hok, hst, hBc⟩
                case measure => simp [intOf]; omega
              | none =>
                rw [hk] at qk
                unfold kindV at qk
                simp only at qk
                by_cases h10 : s[i] = 10
                · have hpe : Il.piece false inner s i st = (i + 1, ⟨st.l ++ [⟨.mk 5 [] [] [], none, 0, 0⟩], st.runs⟩) := by rw [hpe0, hk]; simp only; rw [if_pos (by rw [hgd]; exact h10)]
                  rw [hpe] at hst
                  have hok := Lib.hid (Il.scok_push hOK.out (x := .mk 5 [] [] []) (show i < i + 1 by omega) (by simp [Il.tlen]))
                  have t9 : ((s[i].toNat : Int) == 10) = true := by rw [h10]; rfl
                  clear hk hpe hpe0 hgd h10
                  generalize s[i] = ch at *
                  go_wp2_with fail
                  refine qk.mono ?_
                  rintro e1 wk ⟨rfl, hbk⟩
                  have hWk := hWz.out.ext hbk
                  have hBk := hBz.out.trans (hbk.mono (by omega))
                  go_upto_region 25 with fail
                  generalize hwa : World.alloc wk _ = wa
                  have hba : Ext wk wa := by rw [← hwa]; exact ext_alloc _ _
                  have hWa := Lib.hid (hWk.ext hba)
                  have hBa := Lib.hid (hBk.trans (hba.mono (by have := hBk.size; omega)))
                  have hBaz := hBa.out.size
                  clear hwa hWk hBk hba hbk qk
                  go_upto_region 31 with (at_builtin; refine wpList_app_two rfl (.tmp 150) (.tmp 153) rfl partEI rfl hWa.out.parts rfl (by simp) rfl (by intro y hy; simp at hy; rcases hy with rfl | rfl | rfl | rfl | rfl | rfl | rfl <;> rfl) (by omega) (by omega) (by omega) ?_; intro v7 w7 ho7 hg7 hb7 hat7)
                  have hWb := Lib.hid (hWa.out.push hg7.out ho7 hat7.out (PC_bare _ _ 5 [] [] none 0 0))
                  have hBb := Lib.hid (hBa.out.trans hb7)
                  clear ho7 hg7 hb7 hat7
                  go_wp2_with fail
                  go_roundw
                  case rel => exact ⟨i + 1, _, _, by omega, by go_num, hWb, hok, hst, hBb⟩
                  case measure => simp [intOf]; omega
                · have hpe : Il.piece false inner s i st = ((Es.next s i).2.1, ⟨Il.pput st.l (Lib.encodeRune ((Es.next s i).1 : Int)), st.runs⟩) := by rw [hpe0, hk]; simp only; rw [if_neg (by rw [hgd]; exact h10)]
                  rw [hpe] at hst
                  have hnm := Es.next_more hil
                  have hel := Ru.encodeRune_len ((Es.next s i).1 : Int)
                  have hok := Lib.hid (Il.scok_put hOK.out (s := Lib.encodeRune ((Es.next s i).1 : Int)) hnm.1 (by omega))
                  have t9 : ((s[i].toNat : Int) == 10) = false := byte_ne (n := 10) (by omega) h10
                  have qn := fun w => rnext_any s (i : Int) (by omega) w
                  unfold nextV at qn
                  rw [Int.toNat_natCast] at qn
                  generalize (Es.next s i).1 = nx at *
                  generalize (Es.next s i).2.1 = ne at *
                  generalize (Es.next s i).2.2 = nf at *
                  have hcv : ∀ w : World, (convert 69 9 (.slice (some ⟨w.heap.size, 0, none⟩) 1 1)).run Tryz.prog (w.alloc (.cells #[.int .i32 (nx : Int)] 21)) = .ok (.string (bs (Lib.encodeRune (nx : Int)))) (w.alloc (.cells #[.int .i32 (nx : Int)] 21)) := by
                    intro w
                    have h1 := run_runes (P := Tryz.prog) (X := [nx]) (c := 1) (Row.fresh w 21 #[.int .i32 (nx : Int)] (0, 0) (n := 1) (xs := rcells [nx]) rfl rfl) 69 21 9 (by kernel_rfl) (by kernel_rfl) (by kernel_rfl)
                    rw [h1]
                    congr 2
                    simp [Ru.enc]
                  obtain ⟨T, hT⟩ : ∃ T, T = Lib.encodeRune (nx : Int) := ⟨_, rfl⟩
                  rw [← hT] at hst hel hcv hok
                  have q3 := fun (w3 : World) (h3 : Ext wz w3) => rpput_any st.l T A5 c5 css w3 w.heap.size (QW w.heap.size (.slice A5 st.l.length c5) (.slice A6 st.runs.length c6) w3) (fun b hb => ⟨hb.2.1, fun o sp e => hb.2.2.1 (by rw [e]; rfl)⟩) (by omega) (by omega) (by have := h3.size; omega) (hWz.out.ext h3).parts (hWz.out.ext h3).kids
                  clear hk hpe hpe0 hgd h10 hT
                  generalize s[i] = ch at *
                  replace q3 := Lib.hid q3
                  go_wp2_with fail
                  refine qk.mono ?_
                  rintro e1 wk ⟨rfl, hbk⟩
                  go_upto_region 25 with fail
                  generalize hwa : World.alloc wk _ = wa
                  have hba : Ext wz wa := by rw [← hwa]; exact Ext.trans hbk (ext_alloc _ _)
                  replace hba := Lib.hid hba
                  clear hwa hbk qk
                  go_wp2_with fail
                  refine (qn _).mono ?_
                  rintro e1 wn ⟨rfl, hbn⟩
                  have hban := Lib.hid (Ext.trans hba.out hbn)
                  clear hbn qn
                  go_wp2_with fail
                  refine (q3.out _ (Ext.trans hban.out (ext_alloc _ _))).mono ?_
                  rintro e1 w1 ⟨⟨v7, rfl, css7, ho7, hP7, hat7⟩, hg7, hb7⟩
                  have hWn := Lib.hid ((hWz.out.ext (Ext.trans hban.out (ext_alloc _ _))).put hg7 ho7 hP7 hat7)
                  have hBn := Lib.hid ((hBz.out.trans ((Ext.trans hban.out (ext_alloc _ _)).mono (by omega))).trans hb7)
                  clear ho7 hP7 hat7 hg7 hb7 q3
                  go_wp2_with fail
                  go_roundw
                  case rel => exact ⟨ne, _, _, hnm.2, rfl, hWn, hok, hst, hBn⟩
                  case measure => simp [intOf]; omega
            | some j =>
              have qd := fun w => rdest_any s ((j : Int) + 1) (by omega) w
              have hjs := Il.close_lt hcl
              rw [hcl] at qc
              unfold placeV at qc
              simp only at qc
              cases hde : Lk.dest s ((j : Int) + 1) with
              | none =>
                have hpe0 := hpc.out h96 (by rw [if_neg (by decide)]; exact hau) (by rw [if_neg (by decide)]; unfold Il.linkAt; rw [hcl]; simp only; rw [hde])
                rw [hde] at qd
                unfold spanV at qd
                simp only at qd
                clear hau hcl hin hpc hde
                go_wp2_with fail
                refine (qa _).mono ?_
                rintro e1 w1 ⟨rfl, hb1⟩
                have hE1 := Lib.hid hb1
                clear hb1
                go_wp2_with fail
                refine (qc _).mono ?_
                rintro e1 w2 ⟨rfl, hb2⟩
                have hE2 := Lib.hid (Ext.trans hE1.out hb2)
                clear hb2 hE1
                go_wp2_with fail
                refine (qd _).mono ?_
                rintro e1 wz ⟨rfl, hb3⟩
                have hEz := Ext.trans hE2.out hb3
                have hWz := Lib.hid (hW.out.ext hEz)
                have hBz := Lib.hid (hB.out.trans (hEz.mono hwz))
                clear hE2 hb3 hEz qa qc qd
                have hwzz := hBz.out.size
                have qk := rkind_any s (i : Int) (by omega) wz
                cases hk : Em.kind s (i : Int) with
                | some x =>
                  obtain ⟨r, e⟩ := x
                  obtain ⟨ke1, ke2⟩ := Il.kind_spec hk
                  have hrn := Il.kind_n hk
                  have hpe : Il.piece false inner s i st = (e, ⟨st.l ++ [⟨Il.none_, some st.runs.length, r.n.toNat, r.ch⟩], st.runs ++ [r]⟩) := by rw [hpe0, hk]
                  rw [hpe] at hst
                  have hok := Il.scok_run hOK.out ke1 hrn (by omega)
                  rw [hk] at qk
                  obtain ⟨rc, rn, ro, rx⟩ := r
                  obtain ⟨m, hm⟩ : ∃ m : Nat, m = e - i := ⟨_, rfl⟩
                  simp only at hrn
                  rw [← hm] at hrn
                  have hmm : m ≤ 4000000 := by omega
                  replace hm := Lib.hid hm
                  subst hrn
                  simp only [Int.toNat_natCast] at hst hok
                  replace hok := Lib.hid hok
                  replace hst := Lib.hid hst.out
                  unfold kindV aval at qk
                  simp only at qk
                  clear hk hpe hpe0
                  go_wp2_with fail
                  refine qk.mono ?_
                  rintro e1 wk ⟨rfl, hbk⟩
                  clear qk
                  have hWk := hWz.out.ext hbk
                  have hBk := hBz.out.trans (hbk.mono (by omega))
                  go_upto_region 25 with fail
                  generalize hwa : World.alloc wk _ = wa
                  have hba : Ext wk wa := by rw [← hwa]; exact ext_alloc _ _
                  have hloc : wa.heap[wk.heap.size]? = some (.cells #[.int .u8 (rc.toNat : Int), .int .i64 (m : Int), .bool ro, .bool rx] 74 (0, 0)) := by rw [← hwa]; exact heap_alloc_new _ _
                  have hWa := hWk.ext hba
                  have hBa := hBk.trans (hba.mono (by have := hBk.size; omega))
                  have hkg : wk.heap.size < wa.heap.size := (Array.getElem?_eq_some_iff.1 hloc).1
                  have hne5 : (Value.slice A5 st.l.length c5).ownBlock ≠ some wk.heap.size := fun h => by have := (hWk.parts.lt _ h).2; omega
                  obtain ⟨z0, z1, z2, z3⟩ := four hloc
                  have hBaz := hBa.size
                  generalize wk.heap.size = gk at *
                  replace hWa := Lib.hid hWa
                  replace hBa := Lib.hid hBa
                  replace hloc := Lib.hid hloc
                  replace hne5 := Lib.hid hne5
                  clear hwa hWk hBk hba hbk
                  go_upto_region 27 with (at_builtin; refine wpList_app_two rfl (.tmp 131) (.tmp 139) rfl partEI rfl hWa.out.parts rfl (by simp) rfl (by intro y hy; simp at hy; rcases hy with rfl | rfl | rfl | rfl | rfl | rfl | rfl <;> rfl) (by omega) (by omega) (by omega) ?_; intro v7 w7 ho7 hg7 hb7 hat7)
                  have hWb := hWa.out.push hg7.out ho7 hat7.out (PC_bare _ _ 0 [] [] (some st.runs.length) m rc)
                  have hBb := hBa.out.trans hb7
                  have hloc7 := (hg7.out.block gk hkg (fun h => hne5.out h.symm)).trans hloc.out
                  obtain ⟨z0, z1, z2, z3⟩ := four hloc7
                  have hBbz := hBb.size
                  replace hWb := Lib.hid hWb
                  replace hBb := Lib.hid hBb
                  clear ho7 hg7 hb7 hat7 hWa hBa hloc hne5 hloc7
                  go_upto_region 28 with (at_builtin; refine wpList_app_two rfl (.tmp 141) (.tmp 143) rfl wrunEI rfl hWb.out.runs rfl (by simp) rfl (by intro y hy; simp at hy; rcases hy with rfl | rfl | rfl | rfl <;> rfl) (by simp only; omega) (by omega) (by omega) ?_; intro v8 w8 ho8 hg8 hb8 hat8)
                  have hWc := Lib.hid (hWb.out.pushRun (r := ⟨rc, (m : Int), ro, rx⟩) hg8.out ho8 rfl hat8.out)
                  have hBc := Lib.hid (hBb.out.trans hb8)
                  clear ho8 hg8 hb8 hat8
                  go_wp2_with fail
                  go_roundw
                  case rel => exact ⟨e, _, _, ke2, rfl, hWc, hok, hst, hBc⟩
                  case measure => simp [intOf]; omega
                | none =>
                  rw [hk] at qk
                  unfold kindV at qk
                  simp only at qk
                  by_cases h10 : s[i] = 10
                  · have hpe : Il.piece false inner s i st = (i + 1, ⟨st.l ++ [⟨.mk 5 [] [] [], none, 0, 0⟩], st.runs⟩) := by rw [hpe0, hk]; simp only; rw [if_pos (by rw [hgd]; exact h10)]
                    rw [hpe] at hst
                    have hok := Lib.hid (Il.scok_push hOK.out (x := .mk 5 [] [] []) (show i < i + 1 by omega) (by simp [Il.tlen]))
                    have t9 : ((s[i].toNat : Int) == 10) = true := by rw [h10]; rfl
                    clear hk hpe hpe0 hgd h10
                    generalize s[i] = ch at *
                    go_wp2_with fail
                    refine qk.mono ?_
                    rintro e1 wk ⟨rfl, hbk⟩
                    have hWk := hWz.out.ext hbk
                    have hBk := hBz.out.trans (hbk.mono (by omega))
                    go_upto_region 25 with fail
                    generalize hwa : World.alloc wk _ = wa
                    have hba : Ext wk wa := by rw [← hwa]; exact ext_alloc _ _
                    have hWa := Lib.hid (hWk.ext hba)
                    have hBa := Lib.hid (hBk.trans (hba.mono (by have := hBk.size; omega)))
                    have hBaz := hBa.out.size
                    clear hwa hWk hBk hba hbk qk
                    go_upto_region 31 with (at_builtin; refine wpList_app_two rfl (.tmp 150) (.tmp 153) rfl partEI rfl hWa.out.parts rfl (by simp) rfl (by intro y hy; simp at hy; rcases hy with rfl | rfl | rfl | rfl | rfl | rfl | rfl <;> rfl) (by omega) (by omega) (by omega) ?_; intro v7 w7 ho7 hg7 hb7 hat7)
                    have hWb := Lib.hid (hWa.out.push hg7.out ho7 hat7.out (PC_bare _ _ 5 [] [] none 0 0))
                    have hBb := Lib.hid (hBa.out.trans hb7)
                    clear ho7 hg7 hb7 hat7
                    go_wp2_with fail
                    go_roundw
                    case rel => exact ⟨i + 1, _, _, by omega, by go_num, hWb, hok, hst, hBb⟩
                    case measure => simp [intOf]; omega
                  · have hpe : Il.piece false inner s i st = ((Es.next s i).2.1, ⟨Il.pput st.l (Lib.encodeRune ((Es.next s i).1 : Int)), st.runs⟩) := by rw [hpe0, hk]; simp only; rw [if_neg (by rw [hgd]; exact h10)]
                    rw [hpe] at hst
                    have hnm := Es.next_more hil
                    have hel := Ru.encodeRune_len ((Es.next s i).1 : Int)
                    have hok := Lib.hid (Il.scok_put hOK.out (s := Lib.encodeRune ((Es.next s i).1 : Int)) hnm.1 (by omega))
                    have t9 : ((s[i].toNat : Int) == 10) = false := byte_ne (n := 10) (by omega) h10
                    have qn := fun w => rnext_any s (i : Int) (by omega) w
                    unfold nextV at qn
                    rw [Int.toNat_natCast] at qn
                    generalize (Es.next s i).1 = nx at *
                    generalize (Es.next s i).2.1 = ne at *
                    generalize (Es.next s i).2.2 = nf at *
                    have hcv : ∀ w : World, (convert 69 9 (.slice (some ⟨w.heap.size, 0, none⟩) 1 1)).run Tryz.prog (w.alloc (.cells #[.int .i32 (nx : Int)] 21)) = .ok (.string (bs (Lib.encodeRune (nx : Int)))) (w.alloc (.cells #[.int .i32 (nx : Int)] 21)) := by
                      intro w
                      have h1 := run_runes (P := Tryz.prog) (X := [nx]) (c := 1) (Row.fresh w 21 #[.int .i32 (nx : Int)] (0, 0) (n := 1) (xs := rcells [nx]) rfl rfl) 69 21 9 (by kernel_rfl) (by kernel_rfl) (by kernel_rfl)
                      rw [h1]
                      congr 2
                      simp [Ru.enc]
                    obtain ⟨T, hT⟩ : ∃ T, T = Lib.encodeRune (nx : Int) := ⟨_, rfl⟩
                    rw [← hT] at hst hel hcv hok
                    have q3 := fun (w3 : World) (h3 : Ext wz w3) => rpput_any st.l T A5 c5 css w3 w.heap.size (QW w.heap.size (.slice A5 st.l.length c5) (.slice A6 st.runs.length c6) w3) (fun b hb => ⟨hb.2.1, fun o sp e => hb.2.2.1 (by rw [e]; rfl)⟩) (by omega) (by omega) (by have := h3.size; omega) (hWz.out.ext h3).parts (hWz.out.ext h3).kids
                    clear hk hpe hpe0 hgd h10 hT
                    generalize s[i] = ch at *
                    replace q3 := Lib.hid q3
                    go_wp2_with fail
                    refine qk.mono ?_
                    rintro e1 wk ⟨rfl, hbk⟩
                    go_upto_region 25 with fail
                    generalize hwa : World.alloc wk _ = wa
                    have hba : Ext wz wa := by rw [← hwa]; exact Ext.trans hbk (ext_alloc _ _)
                    replace hba := Lib.hid hba
                    clear hwa hbk qk
                    go_wp2_with fail
                    refine (qn _).mono ?_
                    rintro e1 wn ⟨rfl, hbn⟩
                    have hban := Lib.hid (Ext.trans hba.out hbn)
                    clear hbn qn
                    go_wp2_with fail
                    refine (q3.out _ (Ext.trans hban.out (ext_alloc _ _))).mono ?_
                    rintro e1 w1 ⟨⟨v7, rfl, css7, ho7, hP7, hat7⟩, hg7, hb7⟩
                    have hWn := Lib.hid ((hWz.out.ext (Ext.trans hban.out (ext_alloc _ _))).put hg7 ho7 hP7 hat7)
                    have hBn := Lib.hid ((hBz.out.trans ((Ext.trans hban.out (ext_alloc _ _)).mono (by omega))).trans hb7)
                    clear ho7 hP7 hat7 hg7 hb7 q3
                    go_wp2_with fail
                    go_roundw
                    case rel => exact ⟨ne, _, _, hnm.2, rfl, hWn, hok, hst, hBn⟩
                    case measure => simp [intOf]; omega
              | some x =>
                obtain ⟨d, e⟩ := x
                have hla : Il.linkAt s i = some (d, j, e) := by unfold Il.linkAt; rw [hcl]; simp only; rw [hde]
                obtain ⟨l1, l2, l3⟩ := Il.link_spec hla
                have hpe : Il.piece false inner s i st = (e, ⟨st.l ++ [⟨.mk 4 [] d (inner (mid s (i + 1) j)), none, 0, 0⟩], st.runs⟩) := by
                  unfold Il.piece
                  rw [if_neg (by rw [hgd]; exact h96), if_neg (by decide), hau]
                  simp only
                  rw [if_neg (by decide), hla]
                rw [hpe] at hst
                rw [hde] at qd
                unfold spanV at qd
                simp only at qd
                have hmid : ∀ w : World, (Instr.slice 9 (.string (bs s)) (some (.int .i64 ((i : Int) + 1))) (some (.int .i64 (j : Int))) none).run Tryz.prog w = .ok (.string (bs (mid s (i + 1) j))) w := by
                  intro w
                  have := run_mid (S := s) (i := i + 1) (j := j) (by omega) (by omega) w
                  rwa [show ((i + 1 : Nat) : Int) = (i : Int) + 1 by omega] at this
                have hml := mid_len (l := s) (lo := i + 1) (hi := j) (by omega)
                have qi := fun u => hin.out rfl (mid s (i + 1) j) u (by omega)
                obtain ⟨D, hD⟩ : ∃ D, D = inner (mid s (i + 1) j) := ⟨_, rfl⟩
                rw [← hD] at hst qi
                have hok := Lib.hid (Il.scok_push hOK.out (x := .mk 4 [] d D) (show i < e by omega) (by simp [Il.tlen]))
                generalize mid s (i + 1) j = T at *
                clear hau hpe hpc hgd h96 hcl hde hla hD
                generalize s[i] = ch at *
                replace hin := Lib.hid hin
                go_wp2_with fail
                refine (qa _).mono ?_
                rintro e1 w1 ⟨rfl, hb1⟩
                have hE1 := Lib.hid hb1
                clear hb1
                go_wp2_with fail
                refine (qc _).mono ?_
                rintro e1 w2 ⟨rfl, hb2⟩
                have hE2 := Lib.hid (Ext.trans hE1.out hb2)
                clear hb2 hE1
                go_wp2_with fail
                refine (qd _).mono ?_
                rintro e1 w3 ⟨rfl, hb3⟩
                have hE3 := Lib.hid (Ext.trans hE2.out hb3)
                clear hb3 hE2
                go_wp2_with fail
                refine (qi _).mono ?_
                rintro e1 w4 ⟨⟨vK, rfl, csK, hoK, hIK⟩, hb4⟩
                obtain ⟨AK, cK, rfl, hcK⟩ := own_shape hoK
                have hE4 := Ext.trans hE3.out hb4
                have hW4 := Lib.hid (hW.out.ext hE4)
                have hB4 := Lib.hid (hB.out.trans (hE4.mono hwz))
                have hz3 := hE3.out.size
                have hz4 := hb4.size
                have hsub : ∀ b', w3.heap.size ≤ b' ∧ b' < w4.heap.size → QW w.heap.size (.slice A5 st.l.length c5) (.slice A6 st.runs.length c6) w4 b' := fun b' hb' => ⟨by omega, hb'.2, fun h => by have := (hW.out.parts.lt _ h).2; omega, fun h => by have := (hW.out.runs.lt _ h).2; omega⟩
                have hpc : Hid (PC w4 (QW w.heap.size (.slice A5 st.l.length c5) (.slice A6 st.runs.length c6) w4) ⟨.mk 4 [] d D, none, 0, 0⟩ [.int .i64 ((4 : Nat) : Int), .string (bs []), .string (bs d), .slice AK D.length cK, .int .i64 (runI none), .int .i64 ((0 : Nat) : Int), .int .u8 ((0 : UInt8).toNat : Int)]) := Lib.hid (by
                  refine ⟨[.int .i64 ((4 : Nat) : Int), .string (bs []), .string (bs d), .slice AK D.length cK], ?_, rfl⟩
                  unfold IC
                  exact ⟨AK, cK, csK, rfl, hcK, (own_rowI hoK).frame (fun _ _ => rfl) hsub, ICs_frame (fun _ _ => rfl) hsub hIK⟩)
                clear hE3 hE4 hoK hIK hsub hb4 qa qc qd qi
                go_upto_region 23 with (at_builtin; refine wpList_app_two rfl (.tmp 110) (.tmp 120) rfl partEI rfl hW4.out.parts rfl (by simp) rfl (by intro y hy; simp at hy; rcases hy with rfl | rfl | rfl | rfl | rfl | rfl | rfl <;> rfl) (by omega) (by omega) (by omega) ?_; intro v7 w7 ho7 hg7 hb7 hat7)
                have hWn := Lib.hid (hW4.out.push hg7.out ho7 hat7.out hpc.out)
                have hBn := Lib.hid (hB4.out.trans hb7)
                clear ho7 hg7 hb7 hat7 hW4 hpc hB4
                go_wp2_with fail
                go_roundw
                case rel => exact ⟨e, _, _, l3, rfl, hWn, hok, hst, hBn⟩
                case measure => simp [intOf]; omega
    · have hie : i = s.length := by omega
      have hse := Il.scan_end link inner (show s.length ≤ i by omega) st
      rw [hse] at hst
      have hfe := hst.out
      subst hfe
      have q := rstress_any st.l st.runs A5 A6 c5 c6 css wr w.heap.size hwz hW.out.parts (PCs_frame (fun _ _ => rfl) (fun _ hb => ⟨hb.1, hb.2.1, hb.2.2.1⟩) hW.out.kids) (Row.own hW.out.runs) (by omega) (Il.scok_ready hOK.out) (by omega) (by omega)
      clear hst hse
      have t1 : decide ((i : Int) < (s.length : Int)) = false := decide_eq_false (by omega)
      have t2 : decide (i < s.length) = false := decide_eq_false (by omega)
      clear hie
      go_wp2_with fail
      refine q.mono ?_
      rintro e1 w1 ⟨⟨v1, rfl, cs1, ho1, hI1⟩, hb1⟩
      have hB1 := Lib.hid (hB.out.trans hb1)
      replace ho1 := Lib.hid ho1
      replace hI1 := Lib.hid hI1
      clear hb1
      go_wp2_with fail
      go_ret
      exact ⟨⟨_, rfl, cs1, ho1.out, hI1.out⟩, hB1.out⟩
end Go.Proofs.YtkfhkfagmokjpaaGreatDoor

namespace Go.Proofs.YtkfhkfagmokjpaaGreatDoor
open Go.RowKit

theorem rin_any : WithinOf true Il.inLink := rwithin_T true rfl (fun _ => []) (fun h => absurd h (by decide))
theorem rwithin_all : WithinOf false Il.parse := rwithin_F false rfl Il.inLink (fun _ => rin_any)
set_option maxHeartbeats 1000000 in
/-- a text parted, as the document says: a tree of inlines in blocks of its own -/
theorem riparse_any (s : List UInt8) (w : World) (hs : s.length ≤ 4000000) :
    Calls Tryz.prog 11 #[.string (bs s)] w fun e w' =>
      (∃ v, e = .returned v ∧ ∃ css, w'.ownsRow w.heap.size 41 4 v (Il.parse s).length css.flatten ∧ ICs w' (fun b => w.heap.size ≤ b ∧ b < w'.heap.size) (Il.parse s) css) ∧ Below w.heap.size w w' := by
  have q := fun w => rwithin_all s w hs
  obtain ⟨X, hX⟩ : ∃ X, X = Il.parse s := ⟨_, rfl⟩
  rw [← hX] at q ⊢
  clear hX
  go_enter Tryz.func11, Tryz.ntmps11
  go_wp2_with fail
  refine (q _).mono ?_
  rintro e w1 ⟨⟨v, rfl, css, ho, hI⟩, hb⟩
  replace ho := Lib.hid ho
  replace hI := Lib.hid hI
  replace hb := Lib.hid hb
  go_wp2_with fail
  go_ret
  exact ⟨⟨_, rfl, css, ho.out, hI.out⟩, hb.out⟩
end Go.Proofs.YtkfhkfagmokjpaaGreatDoor
