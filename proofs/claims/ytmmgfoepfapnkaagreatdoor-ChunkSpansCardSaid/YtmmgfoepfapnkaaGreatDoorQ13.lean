/- A tape's pieces: their style, their lines. A tape's documents of lines: all that lay there stays. -/
import Derived.Test.YtmmgfoepfapnkaaGreatDoorQ07
import Derived.Test.YtmmgfoepfapnkaaGreatDoorQ06
import Derived.Test.YtmmgfoepfapnkaaGreatDoorQ02
import Derived.Test.YtmmgfoepfapnkaaGreatDoorQ01
namespace Go.Proofs.YtmmgfoepfapnkaaGreatDoor
open Go.RowKit
attribute [local go_sem] canOp readsAs readUpon

set_option maxHeartbeats 2000000 in
set_option maxRecDepth 100000 in
theorem tp_style (w : World) (g : Nat) (h : TapeAt w g) (st : Bool) :
    Calls Tryz.prog 28 #[.pointer (some ⟨g, 0, none⟩), .bool st] w fun e w' => ∃ s : List UInt8, e = .returned (.string (bs s)) ∧ s.length ≤ 30 ∧ TapeAt w' g ∧ Aside g w w' := by
  have hN := fun l t hl ha => next_lit w g h l t 2 4 hl (by omega) (by omega) ha 4 rfl
  replace hN := Lib.hid hN
  go_enter Tryz.func28, Tryz.ntmps28
  go_wp2_with fail
  refine (hN.out _ _ (by kernel_rfl) (by kernel_rfl)).mono ?_
  rintro e w1 ⟨r, s, rfl, hr, hc, hs, hT, hA⟩
  have hr0 : (0 : Int) ≤ (r : Int) := by omega
  have hr1 : (r : Int) < 4 := by omega
  have hN2 := fun l t hl ha => next_lit w1 g hT l t 7 2 hl (by omega) (by omega) ha 2 rfl
  replace hT := Lib.hid hT
  replace hA := Lib.hid hA
  replace hN2 := Lib.hid hN2
  have z1 := bs_size s
  rcases s with _ | ⟨c, q⟩
  · have ht := text_nil
    cases st with
    | false =>
      go_wp2_with fail
      go_ret
      exact ⟨[], rfl, by simp, hT.out, hA.out⟩
    | true =>
      go_wp2_with fail
      refine (hN2.out _ _ (by kernel_rfl) (by kernel_rfl)).mono ?_
      rintro e w2 ⟨r2, s2, rfl, hr2, hc2, hs2, hT2, hA2⟩
      have hr20 : (0 : Int) ≤ (r2 : Int) := by omega
      have hr21 : (r2 : Int) < 2 := by omega
      have hA' := Lib.hid (hA.out.trans hA2)
      have z2 := bs_size s2
      replace hT2 := Lib.hid hT2
      clear hA2
      go_wp2_with fail
      go_ret
      refine str_out ?_ ⟨hT2.out, hA'.out⟩
      simp only [ByteArray.size_append, z2]; (try simp [ByteArray.size]); omega
  · have ht := text_cons c q
    obtain ⟨T, hTT⟩ : ∃ T, c :: q = T := ⟨_, rfl⟩
    rw [hTT] at ht z1 hc hs
    clear hTT
    cases st <;>
    · go_wp2_with fail
      refine (hN2.out _ _ (by kernel_rfl) (by kernel_rfl)).mono ?_
      rintro e w2 ⟨r2, s2, rfl, hr2, hc2, hs2, hT2, hA2⟩
      have hr20 : (0 : Int) ≤ (r2 : Int) := by omega
      have hr21 : (r2 : Int) < 2 := by omega
      have hA' := Lib.hid (hA.out.trans hA2)
      have z2 := bs_size s2
      replace hT2 := Lib.hid hT2
      clear hA2
      go_wp2_with fail
      go_ret
      refine str_out ?_ ⟨hT2.out, hA'.out⟩
      simp only [ByteArray.size_append, z1, z2]; (try simp [ByteArray.size]); omega

theorem enc_low {n : Nat} (h : n < 128) : (Lib.encodeRune (n : Int)).length ≤ 4 := by
  have key : ∀ k : Fin 128, (Lib.encodeRune (k.val : Int)).length ≤ 4 := by decide
  exact key ⟨n, h⟩
set_option maxRecDepth 100000 in
theorem tp_rune {n : Nat} {r : Int} (hr : r = (n : Int)) (w : World) : (convert 21 9 (.int .i32 r)).run Tryz.prog w = .ok (.string (bs (Lib.encodeRune (n : Int)))) w := by
  subst hr
  rw [run_convert_int_string w 21 9 .i32 (n : Int) (by kernel_rfl) Tryz.underlying9, Ru.encode_eq]
  rfl
theorem tp_text_of {b : ByteArray} {n : Nat} (h : b.size ≤ n) : ∃ t : List UInt8, b = bs t ∧ t.length ≤ n := ⟨b.data.toList, by simp [bs], by simpa using h⟩
theorem aside_grown {g : Nat} {w w1 w' : World} {row : Option Nat} (h : Aside g w w1) (hg : w1.grownBy w' row) (hgl : g < w.heap.size) (hrow : ∀ k, row = some k → w.heap.size ≤ k) : Aside g w w' := by
  have h1 := h.2.1
  refine ⟨h.1.grown hg (by omega) (fun k hk => by have := hrow k hk; omega), Nat.le_trans h1 hg.size, fun k hk hne => ?_⟩
  rw [hg.block k (by omega) (fun e => by have := hrow k e.symm; omega)]
  exact h.2.2 k hk hne
/-- a line more -/
theorem row_more {w : World} {b : Nat} {v : Value} {ls : List (List UInt8)} {t : List UInt8} (h : w.ownsRow b 9 1 v (ls.length + 1) (scells ls ++ [.string (bs t)])) : w.ownsRow b 9 1 v (ls ++ [t]).length (scells (ls ++ [t])) := by
  rw [List.length_append]
  simpa [scells] using h

set_option maxHeartbeats 8000000 in
set_option maxRecDepth 100000 in
theorem body_any (w : World) (g : Nat) (h : TapeAt w g) (fr nm : Nat) (hf : fr ≤ 10) (hm : nm ≤ 10) (F M : Int) (hF : F = (fr : Int)) (hM : M = (nm : Int)) :
    Calls Tryz.prog 29 #[.pointer (some ⟨g, 0, none⟩), .int .i64 F, .int .i64 M] w fun e w' => ∃ (v : Value) (ls : List (List UInt8)), e = .returned v ∧ w'.ownsRow w.heap.size 9 1 v ls.length (scells ls) ∧ ls.length ≤ 4 ∧ (∀ s ∈ ls, s.length ≤ 30) ∧ TapeAt w' g ∧ Aside g w w' := by
  subst hF hM
  have hglt := h.lt
  go_enter Tryz.func29, Tryz.ntmps29
  go_wp2_with fail
  refine (next_of w g h 5 (by omega) 5 rfl).mono ?_
  rintro e w1 ⟨n, rfl, hn, hT1, hA1⟩
  have hn4 : n ≤ 4 := by omega
  replace hT1 := Lib.hid hT1
  replace hA1 := Lib.hid hA1
  clear hn
  go_wp2_with fail
  go_loopw [7, 8] (fun v nv wr => ∃ (k : Nat) (ls : List (List UInt8)), nv = .int .i64 (k : Int) ∧ ls.length + k ≤ 4 ∧ Hid (∀ s ∈ ls, s.length ≤ 30) ∧ Hid (wr.ownsRow w.heap.size 9 1 v ls.length (scells ls)) ∧ Hid (TapeAt wr g) ∧ Hid (Aside g w wr)) (fun _ nv _ => (intOf nv).toNat)
  case atStart => exact ⟨n, [], rfl, by simp; omega, Lib.hid (by simp), Lib.hid ⟨rfl, .inl ⟨rfl, rfl⟩⟩, hT1, hA1⟩
  case round =>
    obtain ⟨k, ls, rfl, hk, hls, hown, hT, hA⟩ := hrel
    obtain ⟨vA, vc, rfl, hvc⟩ := own_shape hown.out
    rcases Nat.eq_zero_or_pos k with rfl | hkp
    · go_wp2_with fail
      go_returns
      exact ⟨_, ls, rfl, hown.out, by omega, hls.out, hT.out, hA.out⟩
    have hk0 : (0 : Int) < (k : Int) := by omega
    have hlt := hT.out.lt
    have hN := fun l t hl ha => next_lit wr g hT.out l t 2 4 hl (by omega) (by omega) ha 4 rfl
    replace hN := Lib.hid hN
    go_wp2_with fail
    refine (hN.out _ _ (by kernel_rfl) (by kernel_rfl)).mono ?_
    rintro e w2 ⟨r, s, rfl, hr, hc, hs, hT2, hA2⟩
    have hr0 : (0 : Int) ≤ (r : Int) := by omega
    have hr1 : (r : Int) < 4 := by omega
    have hown2 := own_aside hown.out hA2 hglt
    replace hA2 := hA.out.trans hA2
    have z1 := bs_size s
    have hn9 := next_of w2 g hT2 9 (by omega) 9 rfl
    clear hN hT hA hown hT2
    go_wp2_with fail
    refine hn9.mono ?_
    rintro e w3 ⟨x, rfl, hx, hT3, hA3⟩
    have hown3 := Lib.hid (own_aside hown2 hA3 hglt)
    replace hA3 := Lib.hid (hA2.trans hA3)
    have hsz3 : w.heap.size ≤ w3.heap.size := hA3.out.2.1
    have hx9 : x < 9 := by omega
    have hlt3 := hT3.lt
    have hwd := word_any w3 g hT3
    have hnx := fun hfm : fr < nm => next_of w3 g hT3 (nm - fr) (by omega) ((nm : Int) - (fr : Int)) (by omega)
    replace hT3 := Lib.hid hT3
    replace hwd := Lib.hid hwd
    replace hnx := Lib.hid hnx
    clear hx hn9 hc hown2 hA2
    obtain hx3 | rfl | rfl | rfl | hge : x < 3 ∨ x = 3 ∨ x = 4 ∨ x = 5 ∨ 6 ≤ x := by omega
    · by_cases hfm : fr < nm
      · have hfi : (fr : Int) < (nm : Int) := by omega
        obtain rfl | rfl | rfl : x = 0 ∨ x = 1 ∨ x = 2 := by omega
        all_goals
          go_wp2_with fail
          refine (hnx.out hfm).mono ?_
          rintro e w4 ⟨y, rfl, hy, hT4, hA4⟩
          have hown4 := Lib.hid (own_aside hown3.out hA4 hglt)
          replace hA4 := Lib.hid (hA3.out.trans hA4)
          have hsz4 : w.heap.size ≤ w4.heap.size := hA4.out.2.1
          have hlt4 := hT4.lt
          replace hT4 := Lib.hid hT4
          have hru := fun w => tp_rune (n := 48 + fr + y) (r := 48 + (fr : Int) + (y : Int)) (by omega) w
          have hel := enc_low (n := 48 + fr + y) (by omega)
          obtain ⟨E, hE⟩ : ∃ E, Lib.encodeRune ((48 + fr + y : Nat) : Int) = E := ⟨_, rfl⟩
          rw [hE] at hru hel
          have zE := bs_size E
          clear hE hnx hwd
          go_wp2_with (at_builtin; refine wpList_app_new rfl (.tmp 37) (.tmp 52) rfl textEI rfl hown4.out rfl rfl rfl (by intro u hu; simp only [List.mem_singleton] at hu; subst hu; rfl) (by omega) (by omega) (by omega) ?_; intro v9 w9 hown9 hg9 hb9)
          have hT9 := Lib.hid (TapeAt.below hT4.out (hb9.mono (by omega)))
          have hA9 := Lib.hid ((aside_grown hA4.out hg9.out hglt (fun k hk => (hown4.out.lt k hk).1)))
          obtain ⟨t9, ht9, hz9⟩ : ∃ t : List UInt8, bs s ++ ⟨#[60, 60, 110]⟩ ++ bs E ++ ⟨#[62, 62]⟩ = bs t ∧ t.length ≤ 30 := tp_text_of (by simp only [ByteArray.size_append, z1, zE]; (try simp [ByteArray.size]); omega)
          go_roundw
          case rel =>
            refine ⟨k - 1, ls ++ [t9], congrArg (Value.int .i64) (by omega), by simp; omega, Lib.hid (fun u hu => ?_), Lib.hid (row_more (by rw [← ht9]; exact hown9)), hT9, hA9⟩
            rcases List.mem_append.1 hu with hu | hu
            · exact hls.out u hu
            · rw [List.mem_singleton.1 hu]; exact hz9
          case measure => simp [intOf]; omega
      · have hfi : ¬ (fr : Int) < (nm : Int) := by omega
        obtain rfl | rfl | rfl : x = 0 ∨ x = 1 ∨ x = 2 := by omega
        all_goals
          go_wp2_with (at_builtin; refine wpList_app_new rfl (.tmp 54) (.tmp 57) rfl textEI rfl hown3.out rfl rfl rfl (by intro u hu; simp only [List.mem_singleton] at hu; subst hu; rfl) (by omega) (by omega) (by omega) ?_; intro v9 w9 hown9 hg9 hb9)
          have hT9 := Lib.hid (TapeAt.below hT3.out (hb9.mono (by omega)))
          have hA9 := Lib.hid ((aside_grown hA3.out hg9.out hglt (fun k hk => (hown3.out.lt k hk).1)))
          obtain ⟨t9, ht9, hz9⟩ : ∃ t : List UInt8, bs s ++ ⟨#[101, 110, 100]⟩ = bs t ∧ t.length ≤ 30 := tp_text_of (by simp only [ByteArray.size_append, z1]; (try simp [ByteArray.size]); omega)
          go_roundw
          case rel =>
            refine ⟨k - 1, ls ++ [t9], congrArg (Value.int .i64) (by omega), by simp; omega, Lib.hid (fun u hu => ?_), Lib.hid (row_more (by rw [← ht9]; exact hown9)), hT9, hA9⟩
            rcases List.mem_append.1 hu with hu | hu
            · exact hls.out u hu
            · rw [List.mem_singleton.1 hu]; exact hz9
          case measure => simp [intOf]; omega
    ·
      go_wp2_with (at_builtin; refine wpList_app_new rfl (.tmp 61) (.tmp 62) rfl textEI rfl hown3.out rfl rfl rfl (by intro u hu; simp only [List.mem_singleton] at hu; subst hu; rfl) (by omega) (by omega) (by omega) ?_; intro v9 w9 hown9 hg9 hb9)
      have hT9 := Lib.hid (TapeAt.below hT3.out (hb9.mono (by omega)))
      have hA9 := Lib.hid ((aside_grown hA3.out hg9.out hglt (fun k hk => (hown3.out.lt k hk).1)))
      obtain ⟨t9, ht9, hz9⟩ : ∃ t : List UInt8, (⟨#[]⟩ : ByteArray) = bs t ∧ t.length ≤ 30 := tp_text_of (by simp [ByteArray.size])
      go_roundw
      case rel =>
        refine ⟨k - 1, ls ++ [t9], congrArg (Value.int .i64) (by omega), by simp; omega, Lib.hid (fun u hu => ?_), Lib.hid (row_more (by rw [← ht9]; exact hown9)), hT9, hA9⟩
        rcases List.mem_append.1 hu with hu | hu
        · exact hls.out u hu
        · rw [List.mem_singleton.1 hu]; exact hz9
      case measure => simp [intOf]; omega
    ·
      go_wp2_with (at_builtin; refine wpList_app_new rfl (.tmp 66) (.tmp 69) rfl textEI rfl hown3.out rfl rfl rfl (by intro u hu; simp only [List.mem_singleton] at hu; subst hu; rfl) (by omega) (by omega) (by omega) ?_; intro v9 w9 hown9 hg9 hb9)
      have hT9 := Lib.hid (TapeAt.below hT3.out (hb9.mono (by omega)))
      have hA9 := Lib.hid ((aside_grown hA3.out hg9.out hglt (fun k hk => (hown3.out.lt k hk).1)))
      obtain ⟨t9, ht9, hz9⟩ : ∃ t : List UInt8, bs s ++ ⟨#[92, 60, 60, 110, 48, 62, 62]⟩ = bs t ∧ t.length ≤ 30 := tp_text_of (by simp only [ByteArray.size_append, z1]; (try simp [ByteArray.size]); omega)
      go_roundw
      case rel =>
        refine ⟨k - 1, ls ++ [t9], congrArg (Value.int .i64) (by omega), by simp; omega, Lib.hid (fun u hu => ?_), Lib.hid (row_more (by rw [← ht9]; exact hown9)), hT9, hA9⟩
        rcases List.mem_append.1 hu with hu | hu
        · exact hls.out u hu
        · rw [List.mem_singleton.1 hu]; exact hz9
      case measure => simp [intOf]; omega
    ·
      go_wp2_with (at_builtin; refine wpList_app_new rfl (.tmp 73) (.tmp 76) rfl textEI rfl hown3.out rfl rfl rfl (by intro u hu; simp only [List.mem_singleton] at hu; subst hu; rfl) (by omega) (by omega) (by omega) ?_; intro v9 w9 hown9 hg9 hb9)
      have hT9 := Lib.hid (TapeAt.below hT3.out (hb9.mono (by omega)))
      have hA9 := Lib.hid ((aside_grown hA3.out hg9.out hglt (fun k hk => (hown3.out.lt k hk).1)))
      obtain ⟨t9, ht9, hz9⟩ : ∃ t : List UInt8, bs s ++ ⟨#[60, 60, 110, 48, 62, 62, 32, 120]⟩ = bs t ∧ t.length ≤ 30 := tp_text_of (by simp only [ByteArray.size_append, z1]; (try simp [ByteArray.size]); omega)
      go_roundw
      case rel =>
        refine ⟨k - 1, ls ++ [t9], congrArg (Value.int .i64) (by omega), by simp; omega, Lib.hid (fun u hu => ?_), Lib.hid (row_more (by rw [← ht9]; exact hown9)), hT9, hA9⟩
        rcases List.mem_append.1 hu with hu | hu
        · exact hls.out u hu
        · rw [List.mem_singleton.1 hu]; exact hz9
      case measure => simp [intOf]; omega
    · have e0 : ((x : Int) == 0) = false := by rw [beq_eq_false_iff_ne]; omega
      have e1 : ((x : Int) == 1) = false := by rw [beq_eq_false_iff_ne]; omega
      have e2 : ((x : Int) == 2) = false := by rw [beq_eq_false_iff_ne]; omega
      have e3 : ((x : Int) == 3) = false := by rw [beq_eq_false_iff_ne]; omega
      have e4 : ((x : Int) == 4) = false := by rw [beq_eq_false_iff_ne]; omega
      have e5 : ((x : Int) == 5) = false := by rw [beq_eq_false_iff_ne]; omega
      go_wp2_with fail
      refine hwd.out.mono ?_
      rintro e w4 ⟨s4, rfl, hs4, hT4, hA4⟩
      have hown4 := Lib.hid (own_aside hown3.out hA4 hglt)
      replace hA4 := Lib.hid (hA3.out.trans hA4)
      have hsz4 : w.heap.size ≤ w4.heap.size := hA4.out.2.1
      have hlt4 := hT4.lt
      replace hT4 := Lib.hid hT4
      have z4 := bs_size s4
      clear hnx hwd
      go_wp2_with (at_builtin; refine wpList_app_new rfl (.tmp 23) (.tmp 28) rfl textEI rfl hown4.out rfl rfl rfl (by intro u hu; simp only [List.mem_singleton] at hu; subst hu; rfl) (by omega) (by omega) (by omega) ?_; intro v9 w9 hown9 hg9 hb9)
      have hT9 := Lib.hid (TapeAt.below hT4.out (hb9.mono (by omega)))
      have hA9 := Lib.hid ((aside_grown hA4.out hg9.out hglt (fun k hk => (hown4.out.lt k hk).1)))
      obtain ⟨t9, ht9, hz9⟩ : ∃ t : List UInt8, bs s ++ bs s4 = bs t ∧ t.length ≤ 30 := tp_text_of (by simp only [ByteArray.size_append, z1, z4]; (try simp [ByteArray.size]); omega)
      go_roundw
      case rel =>
        refine ⟨k - 1, ls ++ [t9], congrArg (Value.int .i64) (by omega), by simp; omega, Lib.hid (fun u hu => ?_), Lib.hid (row_more (by rw [← ht9]; exact hown9)), hT9, hA9⟩
        rcases List.mem_append.1 hu with hu | hu
        · exact hls.out u hu
        · rw [List.mem_singleton.1 hu]; exact hz9
      case measure => simp [intOf]; omega
end Go.Proofs.YtmmgfoepfapnkaaGreatDoor

namespace Go.Proofs.YtmmgfoepfapnkaaGreatDoor
open Go.RowKit

set_option maxHeartbeats 4000000 in
set_option maxRecDepth 100000 in
theorem markdown_aside (w : World) (g : Nat) (h : TapeAt w g) (most : Nat) (hm : most ≤ 1000) (M : Int) (hM : M = (most : Int)) :
    Calls Tryz.prog 31 #[.pointer (some ⟨g, 0, none⟩), .int .i64 M] w fun e w' => ∃ (v : Value) (l : List UInt8), e = .returned v ∧ w'.ownsRow w.heap.size 5 1 v l.length (bcells l) ∧ l.length ≤ most * 200 ∧ TapeAt w' g ∧ Aside g w w' := by
  subst hM
  have hglt := h.lt
  go_enter Tryz.func31, Tryz.ntmps31
  go_wp2_with fail
  refine (next_of w g h 2 (by omega) 2 rfl).mono ?_
  rintro e w1 ⟨kd, rfl, _, hT1, hA1⟩
  go_wp2_with fail
  refine (next_of w1 g hT1 (most + 1) (by omega) ((most : Int) + 1) (by omega)).mono ?_
  rintro e w2 ⟨n, rfl, hn, hT2, hA2⟩
  have hA := hA1.trans hA2
  have hB2 := Lib.hid hA
  have hg2 := hT2.lt
  replace hT2 := Lib.hid hT2
  have hnm : n ≤ most := by omega
  clear hn hT1 hA1 hA2 hA
  go_wp2_with fail
  go_loopw [5, 7] (fun v nv wr => ∃ (k : Nat) (l : List UInt8), nv = .int .i64 (k : Int) ∧ k ≤ most ∧ l.length + k * 200 ≤ most * 200 ∧ Hid (wr.ownsRow w.heap.size 5 1 v l.length (bcells l)) ∧ Hid (TapeAt wr g) ∧ Hid (Aside g w wr)) (fun _ nv _ => (intOf nv).toNat)
  case atStart => exact ⟨n, [], rfl, hnm, by simp; omega, Lib.hid ⟨rfl, .inl ⟨rfl, rfl⟩⟩, hT2, hB2⟩
  case round =>
    obtain ⟨k, l, rfl, hk, hl, hown, hT, hB⟩ := hrel
    obtain ⟨vA, vc, rfl, hvc⟩ := own_shape hown.out
    rcases Nat.eq_zero_or_pos k with rfl | hkp
    · go_wp2_with fail
      go_ret
      exact ⟨_, l, rfl, hown.out, by omega, hT.out, hB.out⟩
    · have hk0 : (0 : Int) < (k : Int) := by omega
      have hlt := hT.out.lt
      have hsw := hB.out.2.1
      go_wp2_with fail
      refine (line_of_any wr g hT.out).mono ?_
      rintro e w3 ⟨s1, rfl, hs1, hT3, hA3⟩
      have hsw3 := hA3.2.1
      have hown3 := own_aside hown.out hA3 (by omega)
      have hB3 := Lib.hid (hB.out.trans hA3)
      have hlt3 := hT3.lt
      replace hT3 := Lib.hid hT3
      clear hA3
      go_wp2_with (at_builtin; refine wpList_app_text rfl (.tmp 18) (.tmp 20) rfl byteEI byteZ Tryz.underlying9 rfl hown3 rfl (by omega) (by omega) ?_; intro v1 w4 hown4 hg4 hb4)
      have hT4 := hT3.out.below (hb4.mono (by omega))
      have hB4 := Lib.hid (aside_grown hB3.out hg4.out hglt (fun k e => (hown3.lt k e).1))
      have hsw4 := hB4.out.2.1
      refine (end_any w4 g hT4 kd).mono ?_
      rintro e w5 ⟨s2, rfl, hs2, hT5, hA5⟩
      have hsw5 := hA5.2.1
      have hown5 := own_aside hown4 hA5 (by omega)
      have hB5 := Lib.hid (hB4.out.trans hA5)
      have hlt5 := hT5.lt
      replace hT5 := Lib.hid hT5
      clear hg4 hb4
      have hll : (l ++ s1).length = l.length + s1.length := by simp
      rw [← hll] at hown5
      clear hA5 hown3 hown4 hT4
      go_wp2_with (at_builtin; refine wpList_app_text rfl (.tmp 21) (.tmp 24) rfl byteEI byteZ Tryz.underlying9 rfl hown5 rfl (by omega) (by omega) ?_; intro v2 w6 hown6 hg6 hb6)
      have hT6 := Lib.hid (hT5.out.below (hb6.mono (by omega)))
      have hB6 := Lib.hid (aside_grown hB5.out hg6.out hglt (fun k e => (hown5.lt k e).1))
      have hll2 : ((l ++ s1) ++ s2).length = (l ++ s1).length + s2.length := List.length_append
      rw [← hll2] at hown6
      go_roundw
      case rel => exact ⟨k - 1, (l ++ s1) ++ s2, congrArg (Value.int .i64) (by omega), by omega, by omega, Lib.hid hown6, hT6, hB6⟩
      case measure => simp [intOf]; omega
end Go.Proofs.YtmmgfoepfapnkaaGreatDoor
