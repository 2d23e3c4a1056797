/- Plain mathematics of infos: the infos of law 5's AttrOrder, read. No program is spoken of here. -/
import Derived.Test.YtfppfaliepkhgaaDoorAtLetters
namespace Go.Proofs.YtfppfaliepkhgaaDoor.At

def wGo : List UInt8 := [103, 111]
section
variable {n s : List UInt8}
theorem order_one (hn : bare n = true) (hs : bare s = true) :
    pairs (wGo ++ 32 :: (wName ++ 61 :: (n ++ 32 :: (wComment ++ 61 :: (s ++ 32 :: (wAppend ++ 32 :: (wNoline ++ []))))))) = (wGo, [⟨wName, n, false⟩, ⟨wComment, s, false⟩, ⟨wAppend, [], true⟩, ⟨wNoline, [], true⟩], true) := by
  rw [pairs_run]
  obtain ⟨f, hf⟩ : ∃ f, (wGo ++ 32 :: (wName ++ 61 :: (n ++ 32 :: (wComment ++ 61 :: (s ++ 32 :: (wAppend ++ 32 :: (wNoline ++ []))))))).length + 1 = f + 6 := ⟨_, by simp [wGo, wName, wComment, wAppend, wNoline]; exact (Nat.sub_add_cancel (m := 6) (by omega)).symm⟩
  rw [hf]
  rw [run_lang (f := f + 5) (by decide) (by decide) (by decide) rfl, run_gap (by decide),
    run_word (f := f + 4) (by decide) (by decide) rfl hn rfl, run_gap (by decide),
    run_word (f := f + 3) (by decide) (by decide) rfl hs rfl, run_gap (by decide),
    run_alone (f := f + 2) (by decide) (by decide) rfl rfl rfl, run_gap (by decide),
    run_alone (f := f + 1) (by decide) (by decide) rfl rfl rfl, run_nil]
  rfl
theorem read_one (hn : bare n = true) (hs : bare s = true) (h1 : name n = true) (h2 : style s = true) :
    read (wGo ++ 32 :: (wName ++ 61 :: (n ++ 32 :: (wComment ++ 61 :: (s ++ 32 :: (wAppend ++ 32 :: (wNoline ++ []))))))) = some ⟨wGo, n, [], s, true, true⟩ := by
  unfold read
  rw [order_one hn hs]
  simp [steps, step, h1, h2, wName, wFile, wComment, wAppend, wNoline]
/-- the third text: a key twice -/
theorem read_twice (hn : bare n = true) : read (wGo ++ 32 :: (wName ++ 61 :: (n ++ 32 :: (wAppend ++ 32 :: (wAppend ++ []))))) = none := by
  have h : pairs (wGo ++ 32 :: (wName ++ 61 :: (n ++ 32 :: (wAppend ++ 32 :: (wAppend ++ []))))) = ([], [], false) := by
    rw [pairs_run]
    obtain ⟨f, hf⟩ : ∃ f, (wGo ++ 32 :: (wName ++ 61 :: (n ++ 32 :: (wAppend ++ 32 :: (wAppend ++ []))))).length + 1 = f + 6 := ⟨_, by simp [wGo, wName, wAppend]; exact (Nat.sub_add_cancel (m := 6) (by omega)).symm⟩
    rw [hf, run_lang (f := f + 5) (by decide) (by decide) (by decide) rfl, run_gap (by decide),
      run_word (f := f + 4) (by decide) (by decide) rfl hn rfl, run_gap (by decide),
      run_alone (f := f + 3) (by decide) (by decide) rfl rfl rfl, run_gap (by decide)]
    rfl
  unfold read
  rw [h]
  simp [steps]
/-- the second text: in another order, with other gaps -/
theorem read_two (hn : bare n = true) (hs : bare s = true) (h1 : name n = true) (h2 : style s = true) :
    read (wGo ++ 32 :: 32 :: (wNoline ++ 9 :: (wComment ++ 61 :: (s ++ 32 :: (wAppend ++ 32 :: (wName ++ 61 :: (n ++ [32]))))))) = some ⟨wGo, n, [], s, true, true⟩ := by
  have h : pairs (wGo ++ 32 :: 32 :: (wNoline ++ 9 :: (wComment ++ 61 :: (s ++ 32 :: (wAppend ++ 32 :: (wName ++ 61 :: (n ++ [32]))))))) = (wGo, [⟨wNoline, [], true⟩, ⟨wComment, s, false⟩, ⟨wAppend, [], true⟩, ⟨wName, n, false⟩], true) := by
    rw [pairs_run]
    obtain ⟨f, hf⟩ : ∃ f, (wGo ++ 32 :: 32 :: (wNoline ++ 9 :: (wComment ++ 61 :: (s ++ 32 :: (wAppend ++ 32 :: (wName ++ 61 :: (n ++ [32]))))))).length + 1 = f + 6 := ⟨_, by simp [wGo, wName, wComment, wAppend, wNoline]; exact (Nat.sub_add_cancel (m := 6) (by omega)).symm⟩
    rw [hf, run_lang (f := f + 5) (by decide) (by decide) (by decide) rfl, run_gap (by decide), run_gap (by decide),
      run_alone (f := f + 4) (by decide) (by decide) rfl rfl rfl, run_gap (by decide),
      run_word (f := f + 3) (by decide) (by decide) rfl hs rfl, run_gap (by decide),
      run_alone (f := f + 2) (by decide) (by decide) rfl rfl rfl, run_gap (by decide),
      run_word (f := f + 1) (by decide) (by decide) rfl hn rfl, run_gap (by decide), run_nil]
    rfl
  unfold read
  rw [h]
  simp [steps, step, h1, h2, wName, wFile, wComment, wAppend, wNoline]
/-- a text in quotes that holds no quote and no backslash -/
theorem qd_plain {v : List UInt8} (r : List UInt8) (h : ∀ b ∈ v, b ≠ 34 ∧ b ≠ 92) : qd (v ++ 34 :: r) = some (v, v.length + 1) := by
  induction v with
  | nil => exact qd_end _
  | cons b v ih =>
    rw [List.cons_append, qd_one _ (h b (.head _)).1 (h b (.head _)).2, ih fun c hc => h c (.tail _ hc)]
    rfl
theorem drop_quote (v r : List UInt8) : (v ++ 34 :: r).drop (v.length + 1) = r := by
  rw [show v ++ 34 :: r = (v ++ [34]) ++ r from by simp, List.drop_left' (by simp)]
/-- the fourth text: in quotes -/
theorem read_four (hn : bare n = true) (hs : bare s = true) (h1 : name n = true) (h2 : style s = true) :
    read (wGo ++ 32 :: (wComment ++ 61 :: 34 :: (s ++ 34 :: (32 :: (wName ++ 61 :: 34 :: (n ++ 34 :: (32 :: (wAppend ++ 32 :: (wNoline ++ []))))))))) = some ⟨wGo, n, [], s, true, true⟩ := by
  have qs := fun r => qd_plain (v := s) r (fun b hb => ⟨(bare_nogap hs b hb).2.1, (bare_nogap hs b hb).2.2.2⟩)
  have qn := fun r => qd_plain (v := n) r (fun b hb => ⟨(bare_nogap hn b hb).2.1, (bare_nogap hn b hb).2.2.2⟩)
  have h : pairs (wGo ++ 32 :: (wComment ++ 61 :: 34 :: (s ++ 34 :: (32 :: (wName ++ 61 :: 34 :: (n ++ 34 :: (32 :: (wAppend ++ 32 :: (wNoline ++ []))))))))) = (wGo, [⟨wComment, s, false⟩, ⟨wName, n, false⟩, ⟨wAppend, [], true⟩, ⟨wNoline, [], true⟩], true) := by
    rw [pairs_run]
    obtain ⟨f, hf⟩ : ∃ f, (wGo ++ 32 :: (wComment ++ 61 :: 34 :: (s ++ 34 :: (32 :: (wName ++ 61 :: 34 :: (n ++ 34 :: (32 :: (wAppend ++ 32 :: (wNoline ++ []))))))))).length + 1 = f + 6 := ⟨_, by simp [wGo, wName, wComment, wAppend, wNoline]; exact (Nat.sub_add_cancel (m := 6) (by omega)).symm⟩
    rw [hf, run_lang (f := f + 5) (by decide) (by decide) (by decide) rfl, run_gap (by decide),
      run_quote (f := f + 4) (by decide) (by decide) rfl (qs _) (by rw [drop_quote]; rfl), drop_quote, run_gap (by decide),
      run_quote (f := f + 3) (by decide) (by decide) rfl (qn _) (by rw [drop_quote]; rfl), drop_quote, run_gap (by decide),
      run_alone (f := f + 2) (by decide) (by decide) rfl rfl rfl, run_gap (by decide),
      run_alone (f := f + 1) (by decide) (by decide) rfl rfl rfl, run_nil]
    rfl
  unfold read
  rw [h]
  simp [steps, step, h1, h2, wName, wFile, wComment, wAppend, wNoline]
end
end Go.Proofs.YtfppfaliepkhgaaDoor.At
