/- Law 10: no two pairs cross; none takes more signs than there are: the law's own walk. What the program's Match does is a premise. -/
import Derived.Test.YtboeaofcioolnaaDoorWEmNests
namespace Go.Proofs.YtboeaofcioolnaaDoor
open Go.RowKit

theorem UsedAt.congr {U V : Nat → Nat} {g : Nat} {w : World} (h : UsedAt U g w) (he : ∀ i, i < 32 → U i = V i) : UsedAt V g w := by
  obtain ⟨cs, e, h1, h2, h3⟩ := h
  exact ⟨cs, e, h1, h2, fun i hi => by rw [← he i hi]; exact h3 i hi⟩
theorem UsedAt.drew {U : Nat → Nat} {g : Nat} {w : World} (h : UsedAt U g w) : UsedAt U g w.drew := h
theorem used_take_le (X : List (Nat × Nat × Nat)) (k i : Nat) : Em.used (X.take k) i ≤ Em.used X i := by
  have e : Em.used X i = Em.used (X.take k) i + Em.used (X.drop k) i := by
    unfold Em.used; rw [← List.sum_append, ← List.map_append, List.take_append_drop]
  omega
theorem used_out {l : List Em.R} {X : List (Nat × Nat × Nat)} (good : ∀ x ∈ X, x.1 < x.2.1 ∧ x.2.1 < l.length) {i : Nat} (hi : l.length ≤ i) : Em.used X i = 0 := by
  induction X with
  | nil => rfl
  | cons x r ih =>
    have h1 := good x (by simp)
    have h2 := ih fun y hy => good y (by simp [hy])
    unfold Em.used at h2 ⊢
    rw [List.map_cons, List.sum_cons, h2, if_neg (by omega), if_neg (by omega)]
theorem runsOf_n (ks : List UInt8) : (runsOf ks).length ≤ 30 ∧ ∀ r ∈ runsOf ks, 0 ≤ r.n :=
  ⟨runsOf_len ks, fun r hr => by
    unfold runsOf at hr
    obtain ⟨b, _, rfl⟩ := List.mem_map.1 hr
    unfold runOf
    simp only
    omega⟩

set_option maxHeartbeats 16000000 in
set_option maxRecDepth 100000 in
theorem nests_any (hP : PMatch) (ks : List UInt8) (A : Option Addr) (c : Nat) (w : World) (h : Row w w.heap.size 1 A ks.length (bcells ks)) (hk : ks.length ≤ 9223372036854775807) (hT : Tabs w) :
    Calls Tryd.prog 5 #[.slice A ks.length c] w fun e w' => e = .returned (.bool true) ∧ Below w.heap.size w w' := by
  have hr := runs_any ks A c w h hk
  obtain ⟨hll, hn0⟩ := runsOf_n ks
  obtain ⟨l, hl⟩ : ∃ l, l = runsOf ks := ⟨_, rfl⟩
  rw [← hl] at hr hll hn0
  clear hl h
  have hI := Em.inv_pairs l
  have hbd := Em.bd_pairs l
  have p := fun A c wz hz => hP l A c wz hz (by omega)
  obtain ⟨X, hX⟩ : ∃ X, X = Em.pairs l := ⟨_, rfl⟩
  have good : ∀ x ∈ X, x.1 < x.2.1 ∧ x.2.1 < l.length ∧ 1 ≤ x.2.2 ∧ x.2.2 ≤ 2 ∧ (Em.get l x.1).o = true ∧ (Em.get l x.2.1).c = true ∧ (Em.get l x.1).ch = (Em.get l x.2.1).ch := fun x hx => by
    rw [hX] at hx; have := hI.good x hx; exact ⟨this.1, this.2.2⟩
  have cross : X.Pairwise Em.apart := by rw [hX]; exact hI.cross
  have sum : ∀ i, Em.used X i ≤ 100 ∧ ∀ hi : i < l.length, (Em.used X i : Int) ≤ l[i].n := fun i => by
    rcases Nat.lt_or_ge i l.length with hi | hi
    · have h1 := hI.sum i hi
      rw [Em.get_at hi] at h1
      have h2 := Em.held_le l[i].n
      have h3 := Em.held_le_n (hn0 l[i] (List.getElem_mem hi))
      have e : Em.used X i = Em.used (Em.outer l l.length 0 (l.map (fun r => Em.held r.n), [])).2 i := by rw [hX]; rfl
      exact ⟨by omega, fun _ => by omega⟩
    · exact ⟨by rw [used_out (l := l) (fun x hx => ⟨(good x hx).1, (good x hx).2.1⟩) hi]; omega, fun h => absurd h (by omega)⟩
  rw [← hX] at p hbd
  clear hX hI hn0
  have hXl : X.length ≤ 3000 := by omega
  replace hP := Lib.hid hP
  replace good := Lib.hid good
  replace cross := Lib.hid cross
  replace sum := Lib.hid sum
  replace p := Lib.hid p
  replace hT := Lib.hid hT
  go_enter Tryd.func5, Tryd.ntmps5
  go_wp2_with fail
  refine hr.mono ?_
  rintro e w1 ⟨⟨v, rfl, ho⟩, hb1⟩
  clear hr
  obtain ⟨A1, c1, rfl, hc1⟩ := own_shape ho
  replace hb1 := Lib.hid hb1
  go_wp2_with fail
  refine (p.out _ _ _ (Row.own ho)).mono ?_
  rintro e w2 ⟨⟨v, rfl, ho2⟩, hb2⟩
  have ho1 := Lib.hid (own_below ho hb2)
  replace hb2 := Lib.hid (ext_trans hb1.out hb2)
  obtain ⟨A2, c2, rfl, hc2⟩ := own_shape ho2
  replace ho2 := Lib.hid ho2
  clear p ho hb1
  go_upto_region 4 with fail
  generalize hw3 : World.alloc w2 _ = w3
  have hU0 : UsedAt (fun _ => 0) w2.heap.size w3 := by
    rw [← hw3]
    refine ⟨_, _, heap_alloc_new _ _, rfl, fun i hi => ?_⟩
    have e : ∀ j : Nat, j < 32 → (Array.replicate 32 (Value.int .i64 0))[j]? = some (.int .i64 (((0 : Nat)) : Int)) := fun j hj => by rw [Array.getElem?_replicate, if_pos hj]; rfl
    exact e i hi
  have hb3 : Below w2.heap.size w2 w3 := by rw [← hw3]; exact ext_alloc _ _
  clear hw3
  generalize hgu : w2.heap.size = gu at hU0 ⊢
  have hle : w2.heap.size ≤ gu := by omega
  replace hgu := Lib.hid hgu
  replace hU0 := Lib.hid hU0
  replace hb3 := Lib.hid hb3
  go_wp2_with fail
  go_loopw [17] (fun v wr => ∃ k : Nat, k ≤ X.length ∧ v = .int .i64 (k : Int) ∧ Hid (UsedAt (Em.used (X.take k)) gu wr) ∧ Hid (Below w2.heap.size w2 wr)) (fun v _ => X.length - (intOf v).toNat)
  case atStart => exact ⟨0, Nat.zero_le _, rfl, hU0, hb3⟩
  case round =>
    obtain ⟨k, hkX, rfl, hU, hb⟩ := hrel
    clear hU0 hb3
    have hbz := hb.out.size
    by_cases hkl : k < X.length
    · obtain ⟨g2, rfl⟩ : ∃ g, A2 = some ⟨g, 0, none⟩ := by
        rcases ho2.out.2 with ⟨hv, h0⟩ | ⟨g, cap, cur, hv, _⟩
        · omega
        · injection hv with h1 _ _; exact ⟨g, h1⟩
      have hgd := good.out X[k] (List.getElem_mem hkl)
      have hll0 : 0 < l.length := by omega
      obtain ⟨g1, rfl⟩ : ∃ g, A1 = some ⟨g, 0, none⟩ := by
        rcases ho1.out.2 with ⟨hv, h0⟩ | ⟨g, cap, cur, hv, _⟩
        · omega
        · injection hv with h1 _ _; exact ⟨g, h1⟩
      have hg2 := (ho2.out.lt g2 rfl).2
      have hg1 := (ho1.out.lt g1 rfl).2
      have hPr := own_below ho2.out hb.out
      obtain ⟨z0, z1, z2⟩ := pairsAt_own hPr k hkl
      obtain ⟨b, o, hA, hbb, hc⟩ := run_cell (Row.own (own_below ho1.out hb.out)) hll0
      injection hA with hA; injection hA with hA1 hA2 _
      subst hA1 hA2
      have hPA := Lib.hid (pairsAt_own hPr)
      have hap : Hid (∀ j (hj : j < X.length), j < k → Em.apart X[j] X[k]) := Lib.hid (fun j hj hjk => List.pairwise_iff_getElem.1 cross.out j k hj hkl hjk)
      have hsn : Hid (∀ i, Em.used (X.take (k + 1)) i = Em.used (X.take k) i + ((if X[k].1 = i then X[k].2.2 else 0) + if X[k].2.1 = i then X[k].2.2 else 0)) := Lib.hid (fun i => by rw [List.take_succ_eq_append_getElem hkl, Em.used_snoc])
      obtain ⟨x, hx⟩ : ∃ x, x = X[k] := ⟨_, rfl⟩
      rw [← hx] at hgd z0 z1 z2 hsn
      have hap2 : Hid (∀ j (hj : j < X.length), j < k → Em.apart X[j] x) := by rw [hx]; exact hap
      clear hx hap
      obtain ⟨xa, xb, xd⟩ := x
      simp only at hgd z0 z1 z2 hsn
      obtain ⟨d1, d2, d3, d4, d5, d6, d7⟩ := hgd
      have hca := hc xa (by omega)
      have hcb := hc xb (by omega)
      rw [Nat.zero_add] at hca hcb
      rw [Em.get_at (by omega)] at d5 d6 d7
      rw [Em.get_at (by omega)] at d7
      rw [d5] at hca
      rw [d6, ← d7] at hcb
      obtain ⟨ch, hch⟩ : ∃ ch, ch = (l[xa]'(by omega)).ch := ⟨_, rfl⟩
      rw [← hch] at hca hcb
      clear hc d5 d6 d7 hch hPr
      have hca0 := Lib.hid hca.1
      have hca2 := Lib.hid hca.2.2.1
      have hcb0 := Lib.hid hcb.1
      have hcb3 := Lib.hid hcb.2.2.2
      clear hca hcb
      have hg2r : g2 < wr.heap.size := by omega
      have hua := (sum.out xa).1
      have hub := (sum.out xb).1
      have hua2 := used_take_le X k xa
      have hub2 := used_take_le X k xb
      go_upto_region 7 with fail
      generalize hw4 : World.alloc wr _ = w4
      have hb4 : Below wr.heap.size wr w4 := by rw [← hw4]; exact ext_alloc _ _
      have hx4 : PairIn (xa, xb, xd) wr.heap.size w4 := by
        rw [← hw4]
        exact ⟨World.cell?_alloc_at _ _ _ _ rfl, World.cell?_alloc_at _ _ _ _ rfl, World.cell?_alloc_at _ _ _ _ rfl⟩
      have hgx4 : wr.heap.size < w4.heap.size := by rw [← hw4]; simp
      clear hw4
      have hgun := hU.out.lt
      generalize hgxx : wr.heap.size = gx at hx4 hgx4 ⊢
      have hgg : gx ≠ gu := by omega
      have hU4 := Lib.hid (hU.out.ext hb4)
      have hPA4 := Lib.hid (hPA.out.ext hg2r hb4)
      have e0 := (hb4.cell (p := ⟨g1, xa * 4, none⟩) (show g1 < wr.heap.size by omega)).trans hca0.out
      have e2 := (hb4.cell (p := ⟨g1, xa * 4 + 2, none⟩) (show g1 < wr.heap.size by omega)).trans hca2.out
      have f0 := (hb4.cell (p := ⟨g1, xb * 4, none⟩) (show g1 < wr.heap.size by omega)).trans hcb0.out
      have f3 := (hb4.cell (p := ⟨g1, xb * 4 + 3, none⟩) (show g1 < wr.heap.size by omega)).trans hcb3.out
      have hb24 := Lib.hid (hb.out.trans (hb4.mono hbz))
      have hb4z := hb4.size
      replace hgxx := Lib.hid hgxx
      clear hca0 hca2 hcb0 hcb3 hb4 hb hU hPA z0 z1 z2
      obtain ⟨x0, x1, x2⟩ := hx4
      go_upto_region 9 with fail
      refine nest_test (xa, xb, xd) g1 l.length c1 gx ch w4 (by simp only; omega) (by simp only; omega) ⟨x0, x1, x2⟩ e2 f3 e0 f0 _ _ _ _ _ _ _ _ _ _ _ _ _ _ _ _ _ _ _ _ _ _ _ _ _ _ _ _ _ _ _ _ _ _ _ _ _ _ _ _ _ _ _ _ _ _ _ _ _ _ _ _ _ _ _ _ _ _ _ _ _ _ _ _ _ _ _ _ _ _ _ _ _ _ _ _ _ _ _ _ _ _ _ _ _ _ _ _ _ _ _ _ _ _ _ _ _ _ _ _ _ _ _ _ _ _ _ _ _ _ _ _ _ _ _ _ _ _ _ _ _ _ _ _ _ _ _ _ _ _ _ _ _ _ _ _ _ _ _ _ _ _ _ _ _ _ _ _ _ _ _ _ _ _ _ _ _ _ _ _ _ _ _ _ _ (fun _ _ d _ _ h => by cases d <;> exact h) ?_
      intro v49 v50 v51 v52 v53 v54 v55 v56 v57 v58 v59 v60 v61 v62 v63 v64 v65 v66 v67 v68 v69 v70 v71 v72 v73 v74 v75 v76 v77 v78 wt hwt
      have hx5 := PairIn.ext (x := (xa, xb, xd)) ⟨x0, x1, x2⟩ hgx4 hwt
      have hU5 := Lib.hid (hU4.out.ext hwt)
      have hPA5 := Lib.hid (hPA4.out.ext (by omega) hwt)
      have hwtz := hwt.size
      have hb25 := Lib.hid (hb24.out.trans (hwt.mono (Nat.le_trans hbz hb4z)))
      clear x0 x1 x2 e0 e2 f0 f3 hU4 hPA4 hb24 hwt
      go_upto_region 11 with fail
      refine nest_stores xa xb xd gu gx (Em.used (X.take k) xa) (Em.used (X.take k) xb) wt (by omega) (by omega) (by omega) (by omega) (by omega) (by omega) hgg hx5 (hU5.out.cell (by omega)) (hU5.out.cell (by omega)) (hU5.out.fz xa) (hU5.out.fz xb) _ _ _ _ _ _ _ _ _ _ _ _ _ _ _ _ _ _ _ _ _ _ _ _ _ _ _ _ _ _ _ _ _ _ _ _ _ _ _ _ _ _ _ _ _ _ _ _ _ _ _ _ _ _ _ _ _ _ _ _ _ _ _ _ _ _ _ _ _ _ _ _ _ _ _ _ _ _ _ _ _ _ _ _ _ _ _ _ _ _ _ _ _ _ _ _ _ _ _ _ _ _ _ _ _ _ _ _ _ _ _ _ _ _ _ _ _ _ _ _ _ _ _ _ _ _ _ _ _ _ _ _ _ _ _ _ _ _ _ _ _ _ _ _ _ _ _ _ _ _ _ _ _ _ _ _ _ _ _ _ _ _ _ _ _ (fun _ _ d _ _ h => by cases d <;> exact h) ?_
      intro y80 y81 y82 y83 y84 y85 y86 y87 y88 y89 y90 y91 y92 y93 y94 y95 y96 y97 y98 y99 ws hws
      have hU6 : UsedAt (Em.used (X.take (k + 1))) gu ws := by
        have h1 := (hU5.out.set (i := xa) (by omega) (Em.used (X.take k) xa + xd)).set (i := xb) (by omega) (Em.used (X.take k) xb + xd)
        rw [Int.natCast_add, Int.natCast_add] at h1
        rw [hws]
        refine UsedAt.congr h1.drew fun i _ => ?_
        rw [hsn.out i]
        by_cases hib : i = xb
        · subst hib; rw [if_pos rfl, if_neg (by omega), if_pos rfl]; omega
        · rw [if_neg hib]
          by_cases hia : i = xa
          · subst hia; rw [if_pos rfl, if_pos rfl, if_neg (fun h => hib h.symm)]; omega
          · rw [if_neg hia, if_neg (fun h => hia h.symm), if_neg (fun h => hib h.symm)]; omega
      have hx6 : PairIn (xa, xb, xd) gx ws := by rw [hws]; exact (hx5.set hgg).set hgg
      have hb26 : Below w2.heap.size w2 ws := by
        rw [hws]
        exact ((hb25.out.setCell (p := ⟨gu, xa, none⟩) hle _).setCell (p := ⟨gu, xb, none⟩) hle _).drew
      have hPA6 : PairsAt X g2 ws := pairsAt_own (own_below ho2.out hb26)
      have hwsz : ws.heap.size = wt.heap.size := by rw [hws]; simp
      clear hws hU5 hPA5 hb25 hx5
      replace hU6 := Lib.hid hU6
      replace hx6 := Lib.hid hx6
      replace hb26 := Lib.hid hb26
      replace hPA6 := Lib.hid hPA6
      go_wp2_with fail
      refine nest_inner X (xa, xb, xd) g2 gx k c2 ws hkX (by omega) (by omega) (by omega) (by omega) hPA6.out hx6.out hap2.out _ _ _ _ _ _ _ _ _ _ _ _ _ _ _ _ _ _ _ _ _ _ _ _ _ _ _ _ _ _ _ _ _ _ _ _ _ _ _ _ _ _ _ _ _ _ _ _ _ _ _ _ _ _ _ _ _ _ _ _ _ _ _ _ _ _ _ _ _ _ _ _ _ _ _ _ _ _ _ _ _ _ _ _ _ _ _ _ _ _ _ _ _ _ _ _ _ _ _ _ _ _ _ _ _ _ _ _ _ _ _ _ _ _ _ _ _ _ _ _ _ _ _ _ _ _ _ _ _ _ _ _ _ _ _ _ _ _ _ _ _ _ _ _ _ _ _ _ _ _ _ _ _ _ _ _ _ _ _ _ _ _ _ ?_
      intro z2 z9 z105 z106 z107 z108 z109 z110 z111 z112 z113 z114 z115 z116 z117 z118 z119 z120 z121 z122 z123 z124 z125 z126 z127 z128 z129 z130 z131 z132 z133 z134 z135 z136 z137 z138 z139 z140 z141 z142 z143 z144 z145 z146 z147 z148 wi hwi
      have hU7 := Lib.hid (hU6.out.ext hwi)
      have hb27 := Lib.hid (hb26.out.trans (hwi.mono (by omega)))
      clear hU6 hx6 hb26 hPA6 hwi
      go_wp2_with fail
      go_roundw
      case rel => exact ⟨k + 1, hkl, by go_num, hU7, hb27⟩
      case measure => simp [intOf]; omega
    · have hke : k = X.length := by omega
      subst hke
      rw [List.take_length] at hU
      have hlt := hU.out.lt
      clear hkX hkl
      go_wp2_with fail
      go_loopw [152] (fun v wq => ∃ j : Nat, j ≤ l.length ∧ v = .int .i64 (j : Int) ∧ Hid (Below wr.heap.size wr wq)) (fun v _ => l.length - (intOf v).toNat)
      case atStart => exact ⟨0, Nat.zero_le _, rfl, Lib.hid (Below.refl _ _)⟩
      case round =>
        obtain ⟨j, hjl, rfl, hq⟩ := hrel
        by_cases hjl2 : j < l.length
        · obtain ⟨g1, rfl⟩ : ∃ g, A1 = some ⟨g, 0, none⟩ := by
            rcases ho1.out.2 with ⟨hv, h0⟩ | ⟨g, cap, cur, hv, _⟩
            · omega
            · injection hv with h1 _ _; exact ⟨g, h1⟩
          obtain ⟨b, o, hA, hbb, hc⟩ := run_cell (Row.own (own_below (own_below ho1.out hb.out) hq.out)) (by omega)
          injection hA with hA; injection hA with hA1 hA2 _
          subst hA1 hA2
          have hn := (hc j hjl2).2.1
          rw [Nat.zero_add] at hn
          have hu := (hU.out.ext hq.out).cell (i := j) (by omega)
          have hle2 := (sum.out j).2 hjl2
          have hj32 : (j : Int) < 32 := by omega
          generalize l[j].n = n at hn hle2
          generalize Em.used X j = m at hu hle2
          have hbq := hq.out.size
          clear hc
          go_wp2_with fail
          go_quiet (fail)
          go_wp2_with fail
          go_roundw
          case rel => exact ⟨j + 1, hjl2, by go_num, Lib.hid (below_drewN hq.out _)⟩
          case measure => simp [intOf]; omega
        · have hbe := Lib.hid (ext_trans (ext_trans hb2.out hb.out) hq.out)
          go_wp2_with fail
          refine (known_any hP.out _ (tabs_below hT.out hbe.out)).mono ?_
          rintro e w9 ⟨rfl, hb9⟩
          replace hb9 := ext_trans hbe.out hb9
          go_wp2_with fail
          go_ret
          exact ⟨rfl, hb9⟩

theorem nests_said (hP : PMatch) (ks : List UInt8) (A : Option Addr) (c : Nat) (w : World) (h : Row w w.heap.size 1 A ks.length (bcells ks)) (hc : ks.length ≤ c) (hm : c ≤ maxLen) (hT : Tabs w) :
    Calls Tryd.prog 5 #[.slice A ks.length c] w fun e w' => e = .returned (.bool true) ∧ Below w.heap.size w w' :=
  nests_any hP ks A c w h (by unfold maxLen at hm; omega) hT
end Go.Proofs.YtboeaofcioolnaaDoor
