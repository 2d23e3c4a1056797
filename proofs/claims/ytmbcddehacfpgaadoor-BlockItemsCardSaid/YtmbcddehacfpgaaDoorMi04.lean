/- Law 7's BlockItems, walked. -/
import Derived.Test.YtmbcddehacfpgaaDoorMi02
import Derived.Test.YtmbcddehacfpgaaDoorMr23
import Derived.Test.YtmbcddehacfpgaaDoorMi03
namespace Go.Proofs.YtmbcddehacfpgaaDoor
open Go.RowKit
attribute [local go_sem] canOp readsAs readUpon

theorem kids_cells {w w' : World} {Q : Nat → Prop} {n : Nat} {A : Option Addr} {css : List (List Value)} {ks : List Bk.Tree} (hrq : RowQ w Q 6 A n css.flatten) (hcs : TCs w Q ks css) (hn : ks.length = n) (hQ : ∀ b, Q b → b < w.heap.size) (hB : Below w.heap.size w w') :
    ∀ i (hi : i < ks.length), ∃ b o kd lv tx inf ln A' n' k', A = some ⟨b, o, none⟩ ∧ ks[i] = Bk.Tree.mk kd lv tx inf ln n' ∧ b < w'.heap.size ∧ (w'.cell? ⟨b, o + i * 6, none⟩ = some (.int .i64 (kd : Int)) ∧ w'.cell? ⟨b, o + i * 6 + 1, none⟩ = some (.int .i64 (lv : Int)) ∧ w'.cell? ⟨b, o + i * 6 + 2, none⟩ = some (.string (bs tx)) ∧ w'.cell? ⟨b, o + i * 6 + 3, none⟩ = some (.string (bs inf)) ∧ w'.cell? ⟨b, o + i * 6 + 4, none⟩ = some (.int .i64 (ln : Int)) ∧ w'.cell? ⟨b, o + i * 6 + 5, none⟩ = some (.slice A' n'.length k')) := by
  intro i hi
  obtain ⟨kc, t1, a1⟩ := TCs_at hcs hi
  obtain ⟨b1, o1, hA1, hb1, r1⟩ := hrq.six (by omega)
  obtain ⟨T, hT⟩ : ∃ T, ks[i] = T := ⟨_, rfl⟩
  rw [hT] at t1
  obtain ⟨kd, lv, tx, inf, ln, n'⟩ := T
  unfold TC at t1
  obtain ⟨A', k', css', rfl, _⟩ := t1
  have hl1 : b1 < w.heap.size := hQ _ hb1
  have hz := hB.size
  have hall : ∀ j u, [Value.int .i64 (kd : Int), .int .i64 (lv : Int), .string (bs tx), .string (bs inf), .int .i64 (ln : Int), .slice A' n'.length k'][j]? = some u → w'.cell? ⟨b1, o1 + i * 6 + j, none⟩ = some u := fun j u hj => by
    have hj6 : j < 6 := (List.getElem?_eq_some_iff.1 hj).1
    have e1 := r1 _ _ ((a1 j hj6).trans hj)
    rw [show o1 + i * 6 + j = o1 + (i * 6 + j) from by omega]
    exact (hB.cell (p := ⟨b1, o1 + (i * 6 + j), none⟩) hl1).trans e1
  exact ⟨b1, o1, kd, lv, tx, inf, ln, A', n', k', hA1, hT, by omega, hall 0 _ rfl, hall 1 _ rfl, hall 2 _ rfl, hall 3 _ rfl, hall 4 _ rfl, hall 5 _ rfl⟩

theorem and8 : ∀ n : Nat, n < 256 → bits .and .u8 (n : Int) 8 = if n / 8 % 2 = 1 then 8 else 0 := by decide +kernel
def itemDoc (ks : List UInt8) : List UInt8 := Ln.join (ks.flatMap Pb.itemLines) [10]
theorem itemDoc_step {ks : List UInt8} {k : Nat} (hk : k < ks.length) : itemDoc (ks.take (k + 1)) = itemDoc (ks.take k) ++ [Pb.sgn ks[k], 32, 119, 10] ++ if Pb.gap ks[k] then [10] else [] := by
  unfold itemDoc
  rw [List.take_succ_eq_append_getElem hk, List.flatMap_append]
  have e : [ks[k]].flatMap Pb.itemLines = Pb.itemLines ks[k] := by simp
  rw [e]
  have : ∀ a b : List (List UInt8), Ln.join (a ++ b) [10] = Ln.join a [10] ++ Ln.join b [10] := fun a b => by simp [Ln.join]
  rw [this, List.append_assoc]
  congr 1
  unfold Pb.itemLines
  cases Pb.gap ks[k] <;> rfl
theorem cnt_step {ks : List UInt8} {k : Nat} (hk : k < ks.length) : Pb.cnt (ks.take (k + 1)) = (Pb.cnt (ks.take k)).more ks[k] := by
  unfold Pb.cnt
  rw [List.take_succ_eq_append_getElem hk, List.foldl_append]
  rfl
theorem cnt_le (ks : List UInt8) : ∀ k, k ≤ ks.length → (Pb.cnt (ks.take k)).lists ≤ k ∧ (Pb.cnt (ks.take k)).items = k
  | 0, _ => ⟨Nat.le_refl _, rfl⟩
  | k + 1, hk => by
    have ih := cnt_le ks k (by omega)
    rw [cnt_step (by omega)]
    unfold Pb.Cnt.more
    simp only
    refine ⟨?_, by omega⟩
    split <;> omega
theorem items_shown (ks : List UInt8) : ∀ s ∈ ks.flatMap Pb.itemLines, Pb.Shown s ∧ s.length ≤ 3 := by
  intro s hs
  obtain ⟨k, _, hk⟩ := List.mem_flatMap.1 hs
  unfold Pb.itemLines at hk
  rcases List.mem_cons.1 hk with rfl | hk
  · refine ⟨fun b hb => ?_, by simp⟩
    simp only [List.mem_cons, List.not_mem_nil, or_false] at hb
    rcases hb with rfl | rfl | rfl
    · rcases Pb.sgn_sign k with e | e | e <;> rw [e] <;> decide
    · decide
    · decide
  · split at hk
    · rw [List.mem_singleton.1 hk]; exact ⟨fun b hb => absurd hb (by simp), by simp⟩
    · cases hk
theorem items_len : ∀ ks : List UInt8, (ks.flatMap Pb.itemLines).length ≤ 2 * ks.length
  | [] => by simp
  | k :: t => by
    have := items_len t
    rw [List.flatMap_cons, List.length_append, List.length_cons]
    have : (Pb.itemLines k).length ≤ 2 := by
      unfold Pb.itemLines
      split <;> simp
    omega
theorem itemDoc_len (ks : List UInt8) : (itemDoc ks).length ≤ 8 * ks.length := by
  have h : ∀ ls : List (List UInt8), (∀ s ∈ ls, s.length ≤ 3) → (Ln.join ls [10]).length ≤ 4 * ls.length := fun ls => by
    induction ls with
    | nil => intro _; simp [Ln.join_nil]
    | cons s r ih =>
      intro h
      rw [Ln.join_cons, List.length_append, List.length_append, List.length_cons]
      have h1 := h s (by simp)
      have h2 := ih fun x hx => h x (by simp [hx])
      simp only [List.length_cons, List.length_nil]; omega
  have := h (ks.flatMap Pb.itemLines) fun s hs => (items_shown ks s hs).2
  have := items_len ks
  unfold itemDoc
  omega
theorem item_tree {ks : List UInt8} (h : ks.length ≤ 20) : ∃ D, Pb.tree (Pb.linesOf (itemDoc ks)) = D.tree ∧ Pb.Lists D (Pb.cnt ks).lists (Pb.cnt ks).items := by
  have hl := itemDoc_len ks
  have := Pb.lines_shown (ls := ks.flatMap Pb.itemLines) (fun s hs => (items_shown ks s hs).1) (by unfold itemDoc at hl; omega)
  unfold Pb.linesOf itemDoc
  rw [this]
  exact Pb.tree_items ks

set_option maxHeartbeats 4000000 in
set_option maxRecDepth 100000 in
theorem items_any (lb : List UInt8) (A0 : Option Addr) (c0 : Nat) (w : World) (h0 : Row w w.heap.size 1 A0 lb.length (bcells lb)) (_ : lb.length ≤ c0) :
    Calls Tryd.prog 5 #[.slice A0 lb.length c0] w fun e w' => e = .returned (.bool true) ∧ Below w.heap.size w w' := by
  obtain ⟨X, hX⟩ : ∃ X : Nat → Pb.Cnt, X = fun k => Pb.cnt (lb.take k) := ⟨_, rfl⟩
  obtain ⟨D, hD⟩ : ∃ D : Nat → List UInt8, D = fun k => itemDoc (lb.take k) := ⟨_, rfl⟩
  have hX0 : X 0 = ⟨0, 0, 0⟩ := by rw [hX]; rfl
  have hD0 : D 0 = [] := by rw [hD]; rfl
  have hXs : ∀ k (hk : k < lb.length), X (k + 1) = (X k).more lb[k] := fun k hk => by rw [hX]; exact cnt_step hk
  have hXl : ∀ k, k ≤ lb.length → (X k).lists ≤ k ∧ (X k).items = k := fun k hk => by rw [hX]; exact cnt_le lb k hk
  have hDs : ∀ k (hk : k < lb.length), D (k + 1) = D k ++ [Pb.sgn lb[k], 32, 119, 10] ++ if Pb.gap lb[k] then [10] else [] := fun k hk => by rw [hD]; exact itemDoc_step hk
  have hDl : ∀ k, k ≤ 20 → (D k).length ≤ 160 := fun k hk => by
    rw [hD]
    have := itemDoc_len (lb.take k)
    rw [List.length_take] at this
    show (itemDoc (lb.take k)).length ≤ 160
    omega
  have hTr : ∀ k, k ≤ 20 → ∃ C : Pb.Cn, Pb.tree (Pb.linesOf (D k)) = C.tree ∧ Pb.Lists C (X k).lists (X k).items := fun k hk => by
    rw [hD, hX]
    exact item_tree (by rw [List.length_take]; omega)
  replace h0 := Lib.hid h0
  replace hXs := Lib.hid hXs
  replace hDs := Lib.hid hDs
  replace hTr := Lib.hid hTr
  clear hX hD
  go_enter Tryd.func5, Tryd.ntmps5
  go_wp2_with fail
  go_loopw [3, 4, 5, 6, 7] (fun s a m l i wr => ∃ k : Nat, i = .int .i64 (k : Int) ∧ k ≤ lb.length ∧ k ≤ 20 ∧ s = .string (bs (D k)) ∧ a = .int .i64 ((X k).lists : Int) ∧ m = .int .i64 ((X k).items : Int) ∧ l = .int .u8 ((X k).last.toNat : Int) ∧ Hid (Below w.heap.size w wr)) (fun _ _ _ _ i _ => 21 - (intOf i).toNat)
  case atStart => exact ⟨0, rfl, by omega, by omega, by rw [hD0]; rfl, by rw [hX0]; rfl, by rw [hX0]; rfl, by rw [hX0]; rfl, Lib.hid (Below.refl _ _)⟩
  case round =>
    obtain ⟨k, rfl, hk1, hk2, rfl, rfl, rfl, rfl, hb⟩ := hrel
    have hkk : (0 : Int) ≤ (k : Int) := by omega
    have hbz := hb.out.size
    obtain ⟨hXa, hXb⟩ := hXl k hk1
    have hDk := hDl k hk2
    by_cases hgo : k < lb.length ∧ k < 20
    · obtain ⟨hg1, hg2⟩ := hgo
      have hg1' : (k : Int) < (lb.length : Int) := by omega
      have hg2' : (k : Int) < 20 := by omega
      obtain ⟨b, o, rfl, hbb, hcc⟩ := h0.out.2 (by omega)
      have hsk := (hb.out.cell (p := ⟨b, o + k, none⟩) hbb).trans (hcc k (.int .u8 (lb[k].toNat : Int)) (by simp [bcells, bv, List.getElem?_eq_getElem hg1]))
      have hbr : b < wr.heap.size := Nat.lt_of_lt_of_le hbb (by omega)
      have hxs := hXs.out k hg1
      have hds := hDs.out k hg1
      obtain ⟨x, hs⟩ : ∃ x, lb[k] = x := ⟨_, rfl⟩
      rw [hs] at hsk hxs hds
      obtain ⟨n, hn⟩ : ∃ n, x.toNat = n := ⟨_, rfl⟩
      have hn8 : n < 256 := by rw [← hn]; exact x.toNat_lt
      rw [hn] at hsk
      obtain ⟨r, hr, hr3⟩ : ∃ r : Nat, n % 3 = r ∧ r < 3 := ⟨n % 3, rfl, Nat.mod_lt _ (by omega)⟩
      obtain ⟨c, hc⟩ : ∃ c, Pb.sgn x = c := ⟨_, rfl⟩
      rw [hc] at hds
      have hsg := Pb.sgn_sign x
      rw [hc] at hsg
      have hci : (⟨#[45, 42, 43]⟩ : ByteArray)[r]'hr3 = c := by
        rw [← hc]
        unfold Pb.sgn
        rw [hn]
        have h3 : r = 0 ∨ r = 1 ∨ r = 2 := by omega
        rcases h3 with e | e | e
        · subst e; rw [if_pos hr]; rfl
        · subst e; rw [if_neg (by omega), if_pos hr]; rfl
        · subst e; rw [if_neg (by omega), if_neg (by omega)]; rfl
      have hconv := run_text (P := Tryd.prog) (n := 1) (c := 1) (l := [c]) (Row.fresh wr 5 #[.int .u8 (c.toNat : Int)] (0, 0) rfl rfl) 23 5 9 Tryd.underlying23 Tryd.underlying5 Tryd.underlying9
      have hxl : (X (k + 1)).last = c ∧ (X (k + 1)).items = k + 1 ∧ (X (k + 1)).lists = (X k).lists + if c = (X k).last then 0 else 1 := by
        rw [hxs]
        unfold Pb.Cnt.more
        simp only [hc]
        exact ⟨trivial, by omega, trivial⟩
      obtain ⟨hxl1, hxl2, hxl3⟩ := hxl
      obtain ⟨la, hla⟩ : ∃ la, (X k).last = la := ⟨_, rfl⟩
      obtain ⟨li, hli⟩ : ∃ li, (X k).lists = li := ⟨_, rfl⟩
      rw [hla, hli] at hxl3
      rw [hla, hli, hXb]
      have hli9 : li ≤ 20 := by omega
      obtain ⟨E, hE⟩ : ∃ E, [c, 32, 119, 10] = E := ⟨_, rfl⟩
      obtain ⟨G, hG⟩ : ∃ G, D k ++ E = G := ⟨_, rfl⟩
      have e1 : bs [c] ++ (⟨#[32, 119, 10]⟩ : ByteArray) = bs E := by rw [← hE, show (⟨#[32, 119, 10]⟩ : ByteArray) = bs [32, 119, 10] from rfl, bs_append]; rfl
      have e2 : bs (D k) ++ bs E = bs G := by rw [← hG, bs_append]
      have z0 := bs_size [c]
      have z1 := bs_size (D k)
      have z2 := bs_size E
      have z3 := bs_size G
      have hEl : E.length = 4 := by rw [← hE]; rfl
      have hGl : G.length = (D k).length + 4 := by rw [← hG, List.length_append, hEl]
      have hbit := and8 n hn8
      rw [hE, hG] at hds
      have hgp : Pb.gap x = decide (n / 8 % 2 = 1) := by unfold Pb.gap; rw [hn]; rfl
      rw [hgp] at hds
      have hbW := hb.out.trans ((ext_alloc wr (.cells #[.int .u8 (c.toNat : Int)] 5)).mono hb.out.size)
      have hx8 : n / 8 % 2 = 1 ∨ ¬ n / 8 % 2 = 1 := Decidable.em _
      clear hE hG hxs hs hcc hgp hsg hc hXa
      have hca : c = la ∨ ¬ c = la := Decidable.em _
      rcases hca with rfl | hne
      · rw [if_pos rfl] at hxl3
        rcases hx8 with h8 | h8
        · rw [if_pos h8] at hbit
          rw [decide_eq_true h8, if_pos rfl] at hds
          obtain ⟨G2, hG2⟩ : ∃ G2, G ++ [10] = G2 := ⟨_, rfl⟩
          have e3 : bs G ++ (⟨#[10]⟩ : ByteArray) = bs G2 := by rw [← hG2, show (⟨#[10]⟩ : ByteArray) = bs [10] from rfl, bs_append]
          rw [hG2] at hds
          clear hG2 h8
          go_wp2_with fail
          go_roundw
          case rel => exact ⟨k + 1, by go_num, by omega, by omega, by rw [hds], by rw [hxl3]; go_num, by rw [hxl2]; go_num, by rw [hxl1], Lib.hid hbW⟩
          case measure => simp [intOf]; omega
        · rw [if_neg h8] at hbit
          rw [decide_eq_false h8, if_neg (by simp), List.append_nil] at hds
          clear h8
          go_wp2_with fail
          go_roundw
          case rel => exact ⟨k + 1, by go_num, by omega, by omega, by rw [hds], by rw [hxl3]; go_num, by rw [hxl2]; go_num, by rw [hxl1], Lib.hid hbW⟩
          case measure => simp [intOf]; omega
      · rw [if_neg hne] at hxl3
        have hn8 : ((c.toNat : Int) == (la.toNat : Int)) = false := by
          rw [beq_eq_false_iff_ne]
          intro e
          exact hne (UInt8.toNat_inj.1 (by omega))
        rcases hx8 with h8 | h8
        · rw [if_pos h8] at hbit
          rw [decide_eq_true h8, if_pos rfl] at hds
          obtain ⟨G2, hG2⟩ : ∃ G2, G ++ [10] = G2 := ⟨_, rfl⟩
          have e3 : bs G ++ (⟨#[10]⟩ : ByteArray) = bs G2 := by rw [← hG2, show (⟨#[10]⟩ : ByteArray) = bs [10] from rfl, bs_append]
          rw [hG2] at hds
          clear hG2 h8 hne
          go_wp2_with fail
          go_roundw
          case rel => exact ⟨k + 1, by go_num, by omega, by omega, by rw [hds], by rw [hxl3]; go_num, by rw [hxl2]; go_num, by rw [hxl1], Lib.hid hbW⟩
          case measure => simp [intOf]; omega
        · rw [if_neg h8] at hbit
          rw [decide_eq_false h8, if_neg (by simp), List.append_nil] at hds
          clear h8 hne
          go_wp2_with fail
          go_roundw
          case rel => exact ⟨k + 1, by go_num, by omega, by omega, by rw [hds], by rw [hxl3]; go_num, by rw [hxl2]; go_num, by rw [hxl1], Lib.hid hbW⟩
          case measure => simp [intOf]; omega
    · have hstop : (lb.length : Int) ≤ (k : Int) ∨ (k : Int) < (lb.length : Int) ∧ (20 : Int) ≤ (k : Int) := by omega
      obtain ⟨C, hT, hC⟩ := hTr.out k hk2
      clear hgo
      rcases hstop with hs1 | ⟨hs1, hs2⟩
      all_goals
        have hconv := run_bytes (D k)
        go_wp2_with fail
        refine (parse_conv (D k) (by omega) wr).mono ?_
        rintro e w3 ⟨cs, rfl, hTT, hb3⟩
        rw [hT] at hTT
        have hTC := hC.kind
        have hCl := hC.len
        have hCs := hC.sum
        have hCa := hC.all
        unfold Pb.Cn.tree TC at hTT
        obtain ⟨Ak, kk, css, hce, hkc, hrq, hcs⟩ := hTT
        rw [hTC] at hce
        obtain ⟨ks, hks⟩ : ∃ ks, C.all = ks := ⟨_, rfl⟩
        obtain ⟨pl, hpl⟩ : ∃ pl, C.line = pl := ⟨_, rfl⟩
        rw [hks] at hce hkc hrq hcs hCl hCs hCa
        rw [hpl] at hce
        obtain rfl : cs = [.int .i64 0, .int .i64 0, .string ⟨#[]⟩, .string ⟨#[]⟩, .int .i64 (pl : Int), .slice Ak ks.length kk] := hce
        have hB3 := ext_trans hb.out hb3
        have hbp := ext_alloc w3 (.cells #[.int .i64 0, .int .i64 0, .string ⟨#[]⟩, .string ⟨#[]⟩, .int .i64 (pl : Int), .slice Ak ks.length kk] 31)
        have hnp := heap_alloc_new w3 (.cells #[.int .i64 0, .int .i64 0, .string ⟨#[]⟩, .string ⟨#[]⟩, .int .i64 (pl : Int), .slice Ak ks.length kk] 31)
        have hzp : (w3.alloc (.cells #[.int .i64 0, .int .i64 0, .string ⟨#[]⟩, .string ⟨#[]⟩, .int .i64 (pl : Int), .slice Ak ks.length kk] 31)).heap.size = w3.heap.size + 1 := by simp
        have hkids := fun w' hB => kids_cells (w' := w') hrq hcs rfl (fun b hb => hb.2) hB
        obtain ⟨n, hn⟩ : ∃ n, ks.length = n := ⟨_, rfl⟩
        rw [hn] at hbp hnp hzp hCl ⊢
        obtain ⟨w4, hw4⟩ : ∃ w4, w3.alloc (.cells #[.int .i64 0, .int .i64 0, .string ⟨#[]⟩, .string ⟨#[]⟩, .int .i64 (pl : Int), .slice Ak n kk] 31) = w4 := ⟨_, rfl⟩
        rw [hw4] at hbp hnp hzp
        obtain ⟨g, hg⟩ : ∃ g, w3.heap.size = g := ⟨_, rfl⟩
        have hB34 := Lib.hid hbp
        have hB34x := Lib.hid (ext_trans hb3 hbp)
        rw [hg] at hnp hzp
        have y5 := cell_of hnp (j := 5) rfl
        obtain ⟨N, hN⟩ : ∃ N : Nat → Nat, N = fun i => Pb.lsum (ks.take i) := ⟨_, rfl⟩
        have hN0 : N 0 = 0 := by rw [hN]; rfl
        have hNn : N n = (X k).items := by rw [hN]; show Pb.lsum (ks.take n) = _; rw [← hn, List.take_length, hCs]
        have hNs : ∀ i (hi : i < ks.length), N (i + 1) = N i + (Pb.tkids ks[i]).length ∧ N (i + 1) ≤ 20 := fun i hi => by
          rw [hN]
          have h1 : Pb.lsum (ks.take (i + 1)) = Pb.lsum (ks.take i) + (Pb.tkids ks[i]).length := by
            rw [List.take_succ_eq_append_getElem hi, Pb.lsum_append]; rfl
          have h2 : Pb.lsum ks = Pb.lsum (ks.take (i + 1)) + Pb.lsum (ks.drop (i + 1)) := by rw [← Pb.lsum_append, List.take_append_drop]
          refine ⟨h1, ?_⟩
          show Pb.lsum (ks.take (i + 1)) ≤ 20
          omega
        have hn20 : n ≤ 20 := by omega
        replace hkids := Lib.hid hkids
        replace hNs := Lib.hid hNs
        replace hCa := Lib.hid hCa
        replace hnp := Lib.hid hnp
        replace hw4 := Lib.hid hw4
        replace hn := Lib.hid hn
        have hXi : (X k).items = k := hXb
        rw [← hCl]
        rw [hXi] at hNn
        replace hNn := Lib.hid hNn
        replace hXi := Lib.hid hXi
        clear hXb hCl
        clear hrq hcs hbp hb3 hB3 hN hT hC hTr hTC hks hpl hconv hXs hDs hCs h0 hXa
        go_wp2_with fail
        rw [hw4.out]
        go_loopw [10, 57] (fun nv iv wy => ∃ i : Nat, iv = .int .i64 (i : Int) ∧ i ≤ n ∧ nv = .int .i64 (N i : Int) ∧ Hid (Below w4.heap.size w4 wy)) (fun _ iv _ => n - (intOf iv).toNat)
        case atStart => exact ⟨0, rfl, by omega, by rw [hN0]; rfl, Lib.hid (Below.refl _ _)⟩
        case round =>
          obtain ⟨i, rfl, hi, rfl, hby⟩ := hrel
          have hyz := hby.out.size
          rcases Nat.lt_or_eq_of_le hi with hil | rfl
          · have hik : i < ks.length := by rw [hn.out]; exact hil
            obtain ⟨b1, o1, kd, lv, tx, inf, ln, A', n', k', rfl, hT, hl1, x0, x1, x2, x3, x4, x5⟩ := hkids.out w4 hB34.out i hik
            have hc1 := hNs.out i hik
            have hc2 := hCa.out _ (List.getElem_mem hik)
            rw [hT] at hc1 hc2
            obtain rfl : kd = 2 := hc2
            replace hc1 : N (i + 1) = N i + n'.length ∧ N (i + 1) ≤ 20 := hc1
            have Y := fun j => hby.out.cell (p := ⟨b1, o1 + i * 6 + j, none⟩) hl1
            have Y0 := hby.out.cell (p := ⟨b1, o1 + i * 6, none⟩) hl1
            rw [← Y0] at x0
            rw [← Y] at x1 x2 x3 x4 x5
            have hi0 : (0 : Int) ≤ (i : Int) := by omega
            have hi1 : (i : Int) < (n : Int) := by omega
            have x0' : wr.cell? ⟨b1, o1 + i * 6, none⟩ = some (.int .i64 2) := x0
            obtain ⟨q, hq⟩ : ∃ q, n'.length = q := ⟨_, rfl⟩
            rw [hq] at x5 hc1
            have hbk := Lib.hid (ext_trans hby.out (ext_alloc wr (.cells #[.int .i64 2, .int .i64 (lv : Int), .string (bs tx), .string (bs inf), .int .i64 (ln : Int), .slice A' q k'] 31)))
            have hs20 : (N i : Int) + (q : Int) ≤ 20 := by omega
            clear hT Y0 Y x0 hq
            go_wp2_with fail
            go_roundw
            case rel => exact ⟨i + 1, by go_num, by omega, by rw [hc1.1]; go_num, hbk⟩
            case measure => simp [intOf]; omega
          · have y5' := (hby.out.cell (p := ⟨g, 5, none⟩) (by show g < _; omega)).trans y5
            have hm := hNn.out
            clear y5 hNn
            go_wp2_with fail
            refine (bknown_any wr).mono ?_
            rintro e w9 ⟨rfl, hb9⟩
            go_wp2_with fail
            go_ret
            exact ⟨rfl, hb.out.trans ((ext_trans (hB34x.out.trans (hby.out.mono hB34x.out.size)) hb9).mono hb.out.size)⟩

theorem items_said (lb : List UInt8) (A0 : Option Addr) (c0 : Nat) (w : World) (h0 : Row w w.heap.size 1 A0 lb.length (bcells lb)) (hc0 : lb.length ≤ c0) (_ : c0 ≤ maxLen) :
    Calls Tryd.prog 5 #[.slice A0 lb.length c0] w fun e w' => e = .returned (.bool true) ∧ Below w.heap.size w w' := items_any lb A0 c0 w h0 hc0
end Go.Proofs.YtmbcddehacfpgaaDoor
