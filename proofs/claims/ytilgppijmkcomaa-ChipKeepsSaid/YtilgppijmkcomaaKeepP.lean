/- What a chip of three blocks keeps, operation by operation: of plain chips. -/
import Derived.Test.YtilgppijmkcomaaCStillP
import Derived.Test.YtilgppijmkcomaaChipCopy
namespace Go.Proofs.Ytilgppijmkcomaa.Chip

structure Kp (c : Chp) (i : Nat) (S : List Bool) (H : List UInt8) : Prop where
  pages : c.pages = 4
  size : c.size = 5
  three : c.blocks.length = 3
  ops0 : 0 ≤ c.ops
  opsi : c.ops ≤ i
  flt : c.faults.length ≤ 60
  blk : ∀ b ∈ c.blocks, b.bad = false ∧ b.pages.length = 4 ∧ (0 ≤ b.used ∧ b.used ≤ 4) ∧ (0 ≤ b.worn ∧ b.worn ≤ i) ∧ ∀ p ∈ b.pages, p.length = 5
  sl : S.length = 12
  hl : H.length = 12
  sure : ∀ n k : Nat, n < 3 → k < 4 → S[n * 4 + k]? = some true → ∃ x, H[n * 4 + k]? = some x ∧ pageAt (blkAt c n) k = List.replicate 5 x

variable {c : Chp} {i n k : Nat} {S : List Bool} {H : List UInt8}
theorem Kp.mono (h : Kp c i S H) : Kp c (i + 1) S H :=
  ⟨h.pages, h.size, h.three, h.ops0, by have := h.opsi; omega, h.flt, fun b hb => by obtain ⟨h1, h2, h3, h4, h5⟩ := h.blk b hb; exact ⟨h1, h2, h3, by omega, h5⟩, h.sl, h.hl, h.sure⟩
theorem Kp.right (h : Kp c i S H) (hi : i ≤ 1000) : rightB c = true := by
  rw [rightB_iff, h.three, h.pages, h.size]
  have := h.opsi
  have := h.ops0
  have := h.flt
  refine ⟨by omega, by omega, by omega, ⟨by omega, by unfold top; omega⟩, by omega, fun b hb => ?_⟩
  obtain ⟨h1, h2, h3, h4, h5⟩ := h.blk b hb
  rw [fitsB_iff]
  exact ⟨by omega, h3, ⟨h4.1, by unfold top; omega⟩, fun p hp => by rw [h5 p hp]; rfl⟩
theorem Kp.small (h : Kp c i S H) : Small c := by
  refine ⟨by rw [h.three]; omega, by have := h.flt; omega, fun b hb => ?_⟩
  obtain ⟨h1, h2, h3, h4, h5⟩ := h.blk b hb
  exact ⟨by omega, fun p hp => by rw [h5 p hp]; omega⟩
theorem Kp.at (h : Kp c i S H) (hn : n < 3) : c.blocks[n]? = some (blkAt c n) := blkAt_get (by rw [h.three]; exact hn)
theorem Kp.fit (h : Kp c i S H) (hn : n < 3) : (blkAt c n).bad = false ∧ (blkAt c n).pages.length = 4 ∧ (0 ≤ (blkAt c n).used ∧ (blkAt c n).used ≤ 4) ∧ (0 ≤ (blkAt c n).worn ∧ (blkAt c n).worn ≤ i) ∧ ∀ p ∈ (blkAt c n).pages, p.length = 5 :=
  h.blk _ (List.mem_of_getElem? (h.at hn))
theorem Kp.may (h : Kp c i S H) (hi : i ≤ 1000) (hn : n < 3) : hasBlockB c n = true := by
  rw [hasBlockB_iff]
  exact ⟨h.right hi, by omega, by rw [h.three]; omega⟩
theorem Kp.mayP (h : Kp c i S H) (hi : i ≤ 1000) (hn : n < 3) (hk : k < 4) : hasPageB c n k = true := by
  rw [hasPageB_iff]
  exact ⟨h.right hi, ⟨by omega, by rw [h.three]; omega⟩, by omega, by rw [h.pages]; omega⟩
theorem Kp.opsTop (h : Kp c i S H) (hi : i ≤ 1000) : c.ops < top := by have := h.opsi; unfold top; omega
theorem set_blk (c : Chp) (n n' : Nat) (b : Blk) (hn : n < c.blocks.length) : blkAt (c.setBlk n b) n' = if n' = n then b else blkAt c n' := by
  by_cases e : n' = n
  · subst e
    rw [if_pos rfl]
    exact blkAt_of (by show (c.blocks.set _ _)[_]? = _; rw [List.getElem?_set, if_pos rfl, if_pos hn])
  · rw [if_neg e]
    unfold blkAt Chp.setBlk
    simp only [List.getD_eq_getElem?_getD]
    rw [List.getElem?_set, if_neg (fun h => e h.symm)]
/-- The next page is programmed. -/
theorem Kp.prog (h : Kp c i S H) (hi : i < 1000) (hn : n < 3) (hk : k < 4) (hu : (blkAt c n).used = k) (x : UInt8) :
    (c.off = true → progC c n k (List.replicate 5 x) = c) ∧ (c.off = false → (progC c n k (List.replicate 5 x)).ops = c.ops + 1 ∧ Kp (progC c n k (List.replicate 5 x)) (i + 1) (S.set (n * 4 + k) (progE c n k (List.replicate 5 x) == 0)) (H.set (n * 4 + k) x)) := by
  have hm : mayProg c n k (List.replicate 5 x) = true := by
    unfold mayProg
    rw [h.mayP (by omega) hn hk, decide_eq_true (h.opsTop (by omega)), List.length_replicate, h.size]; rfl
  obtain ⟨f1, f2, f3, f4, f5⟩ := h.fit hn
  constructor
  · intro ho
    unfold progC
    rw [hm, ho, if_pos (by decide)]
  · intro ho
    have hnot : ¬ ((blkAt c ((n : Int).toNat)).bad = true ∨ (blkAt c ((n : Int).toNat)).used ≠ (k : Int)) := by
      show ¬ ((blkAt c n).bad = true ∨ (blkAt c n).used ≠ (k : Int))
      rw [f1, hu]; simp
    have hd : progC c n k (List.replicate 5 x) = c.counted.setBlk n (progBlk (blkAt c n) k (maskOf (strikes c)) (List.replicate 5 x)) := by
      unfold progC
      rw [hm, ho, if_neg (by decide), if_neg hnot]
      rfl
    have he : progE c n k (List.replicate 5 x) = errOf (strikes c) := by
      unfold progE
      rw [hm, ho, if_neg (by decide), if_neg hnot]
    rw [hd, he]
    have hb : ∀ n', blkAt (c.counted.setBlk n (progBlk (blkAt c n) k (maskOf (strikes c)) (List.replicate 5 x))) n' = if n' = n then progBlk (blkAt c n) k (maskOf (strikes c)) (List.replicate 5 x) else blkAt c n' := fun n' => by
      rw [set_blk _ _ _ _ (by show n < c.blocks.length; rw [h.three]; exact hn)]; rfl
    refine ⟨rfl, h.pages, h.size, by show (c.blocks.set _ _).length = 3; rw [List.length_set]; exact h.three, by show 0 ≤ c.ops + 1; have := h.ops0; omega, by show c.ops + 1 ≤ _; have := h.opsi; omega, h.flt, fun b hb => ?_, by rw [List.length_set]; exact h.sl, by rw [List.length_set]; exact h.hl, fun n' k' hn' hk' hs => ?_⟩
    · rcases List.mem_or_eq_of_mem_set hb with hb | rfl
      · obtain ⟨h1, h2, h3, h4, h5⟩ := h.blk b hb
        exact ⟨h1, h2, h3, by omega, h5⟩
      · refine ⟨f1, by show ((blkAt c n).pages.set _ _).length = 4; rw [List.length_set]; exact f2, by show 0 ≤ (blkAt c n).used + 1 ∧ (blkAt c n).used + 1 ≤ 4; omega, by show 0 ≤ (blkAt c n).worn ∧ (blkAt c n).worn ≤ _; omega, fun p hp => ?_⟩
        rcases List.mem_or_eq_of_mem_set hp with hp | rfl
        · exact f5 p hp
        · unfold progBytes; rw [List.length_map, List.length_replicate]
    · rw [hb]
      rw [List.getElem?_set] at hs ⊢
      by_cases e : n * 4 + k = n' * 4 + k'
      · obtain rfl : n = n' := by omega
        obtain rfl : k = k' := by omega
        rw [if_pos rfl, if_pos (by rw [h.sl]; omega)] at hs
        rw [if_pos rfl, if_pos (by rw [h.hl]; omega), if_pos rfl]
        refine ⟨x, rfl, ?_⟩
        have h0 : errOf (strikes c) = 0 := by simpa using hs
        refine pageAt_of ?_
        show ((blkAt c n).pages.set _ _)[_]? = _
        rw [List.getElem?_set, if_pos rfl, if_pos (by omega), mask_ok h0]
        unfold progBytes
        rw [prog_bytes_all]
      · rw [if_neg e] at hs ⊢
        obtain ⟨y, hy, hp⟩ := h.sure n' k' hn' hk' hs
        refine ⟨y, hy, ?_⟩
        by_cases e2 : n' = n
        · subst e2
          rw [if_pos rfl, ← hp]
          unfold pageAt progBlk
          simp only [List.getD_eq_getElem?_getD]
          rw [List.getElem?_set, if_neg (by omega)]
        · rw [if_neg e2]; exact hp
/-- A block that is full takes no page more. -/
theorem full_no (hu : (blkAt c n).used = 4) (p : List UInt8) : progE c n 3 p ≠ 0 := by
  unfold progE
  split
  · assumption
  · rw [if_pos (.inr (by show (blkAt c n).used ≠ 3; omega))]; decide
def fillRow {α : Type} (S : List α) (n : Nat) (b : α) : Nat → List α
  | 0 => S
  | k + 1 => (fillRow S n b k).set (n * 4 + k) b
theorem fillRow_length {α : Type} (S : List α) (n : Nat) (b : α) : ∀ m, (fillRow S n b m).length = S.length
  | 0 => rfl
  | m + 1 => by unfold fillRow; rw [List.length_set, fillRow_length S n b m]
theorem fillRow_in {α : Type} (S : List α) (n : Nat) (b : α) (hS : n * 4 + 4 ≤ S.length) : ∀ m, m ≤ 4 → ∀ k, k < m → (fillRow S n b m)[n * 4 + k]? = some b
  | 0, _, k, hk => by omega
  | m + 1, hm, k, hk => by
    unfold fillRow
    rw [List.getElem?_set]
    by_cases e : m = k
    · subst e
      rw [if_pos rfl, if_pos (by rw [fillRow_length]; omega)]
    · rw [if_neg (by omega)]
      exact fillRow_in S n b hS m (by omega) k (by omega)
theorem fillRow_out {α : Type} (S : List α) (n : Nat) (b : α) (q : Nat) (hq : q < n * 4 ∨ n * 4 + 4 ≤ q) : ∀ m, m ≤ 4 → (fillRow S n b m)[q]? = S[q]?
  | 0, _ => rfl
  | m + 1, hm => by
    unfold fillRow
    rw [List.getElem?_set, if_neg (by omega)]
    exact fillRow_out S n b q hq m (by omega)
set_option maxRecDepth 10000 in
theorem erase_bytes_all (p : List UInt8) : eraseBytes 255 p = List.replicate p.length 255 := by
  unfold eraseBytes
  rw [List.eq_replicate_iff]
  refine ⟨by rw [List.length_map], fun x hx => ?_⟩
  obtain ⟨y, -, rfl⟩ := List.mem_map.1 hx
  apply UInt8.toNat_inj.1
  have : ∀ m : Fin 256, m.val ||| 255 = 255 := by decide
  rw [UInt8.toNat_or]
  exact this ⟨y.toNat, y.toNat_lt⟩
/-- A block is erased. -/
theorem Kp.erase (h : Kp c i S H) (hi : i < 1000) (hn : n < 3) :
    (c.off = true → eraseC c n = c) ∧ (c.off = false → (eraseC c n).ops = c.ops + 1 ∧ (blkAt (eraseC c n) n).worn = (blkAt c n).worn + 1 ∧ Kp (eraseC c n) (i + 1) (fillRow S n (eraseE c n == 0) 4) (fillRow H n 255 4)) := by
  obtain ⟨f1, f2, f3, f4, f5⟩ := h.fit hn
  have hm : mayErase c n = true := by
    unfold mayErase
    rw [h.may (by omega) hn, decide_eq_true (h.opsTop (by omega)), show (n : Int).toNat = n from rfl, decide_eq_true (show (blkAt c n).worn < top by unfold top; omega)]; rfl
  constructor
  · intro ho
    unfold eraseC
    rw [hm, ho, if_pos (by decide)]
  · intro ho
    have hnot : ¬ ((blkAt c ((n : Int).toNat)).bad = true) := by
      show ¬ ((blkAt c n).bad = true)
      rw [f1]; simp
    have hd : eraseC c n = c.counted.setBlk n (eraseBlk (blkAt c n) c.pages (errOf (strikes c)) (maskOf (strikes c))) := by
      unfold eraseC
      rw [hm, ho, if_neg (by decide), if_neg hnot]
      rfl
    have he : eraseE c n = errOf (strikes c) := by
      unfold eraseE
      rw [hm, ho, if_neg (by decide), if_neg hnot]
    rw [hd, he]
    have hb : ∀ n', blkAt (c.counted.setBlk n (eraseBlk (blkAt c n) c.pages (errOf (strikes c)) (maskOf (strikes c)))) n' = if n' = n then eraseBlk (blkAt c n) c.pages (errOf (strikes c)) (maskOf (strikes c)) else blkAt c n' := fun n' => by
      rw [set_blk _ _ _ _ (by show n < c.blocks.length; rw [h.three]; exact hn)]; rfl
    refine ⟨rfl, by rw [hb, if_pos rfl]; rfl, h.pages, h.size, by show (c.blocks.set _ _).length = 3; rw [List.length_set]; exact h.three, by show 0 ≤ c.ops + 1; have := h.ops0; omega, by show c.ops + 1 ≤ _; have := h.opsi; omega, h.flt, fun b hb => ?_, by rw [fillRow_length]; exact h.sl, by rw [fillRow_length]; exact h.hl, fun n' k' hn' hk' hs => ?_⟩
    · rcases List.mem_or_eq_of_mem_set hb with hb | rfl
      · obtain ⟨h1, h2, h3, h4, h5⟩ := h.blk b hb
        exact ⟨h1, h2, h3, by omega, h5⟩
      · refine ⟨f1, by show ((blkAt c n).pages.map _).length = 4; rw [List.length_map]; exact f2, ?_, by show 0 ≤ (blkAt c n).worn + 1 ∧ (blkAt c n).worn + 1 ≤ _; omega, fun p hp => ?_⟩
        · show 0 ≤ (if errOf (strikes c) = 0 then (0 : Int) else c.pages) ∧ (if errOf (strikes c) = 0 then (0 : Int) else c.pages) ≤ 4
          rw [h.pages]; split <;> omega
        · obtain ⟨q, hq, rfl⟩ := List.mem_map.1 hp
          unfold eraseBytes; rw [List.length_map]; exact f5 q hq
    · rw [hb]
      by_cases e : n' = n
      · subst e
        rw [fillRow_in S n' _ (by rw [h.sl]; omega) 4 (by omega) k' hk'] at hs
        rw [fillRow_in H n' _ (by rw [h.hl]; omega) 4 (by omega) k' hk', if_pos rfl]
        refine ⟨255, rfl, ?_⟩
        have h0 : errOf (strikes c) = 0 := by simpa using hs
        have hq := pageAt_get (b := blkAt c n') (k := k') (by omega)
        refine pageAt_of ?_
        show ((blkAt c n').pages.map _)[k']? = _
        rw [List.getElem?_map, hq, mask_ok h0]
        show some (eraseBytes 255 _) = _
        rw [erase_bytes_all, f5 _ (List.mem_of_getElem? hq)]
      · rw [fillRow_out S n _ _ (by omega) 4 (by omega)] at hs
        rw [fillRow_out H n _ _ (by omega) 4 (by omega), if_neg e]
        exact h.sure n' k' hn' hk' hs
/-- The power comes again. -/
theorem Kp.on (h : Kp c i S H) (hi : i ≤ 1000) {fs : List Flt} (hf : fs.length ≤ 60) : (onC c fs).ops = c.ops ∧ (onC c fs).off = false ∧ Kp (onC c fs) (i + 1) S H := by
  have hb : onB c fs = true := by
    unfold onB
    rw [h.right hi, decide_eq_true (by omega)]; rfl
  have hd : onC c fs = { c with off := false, faults := fs } := by
    unfold onC
    rw [if_pos hb]
  rw [hd]
  have h := h.mono
  exact ⟨rfl, rfl, h.pages, h.size, h.three, h.ops0, h.opsi, hf, h.blk, h.sl, h.hl, h.sure⟩
theorem Kp.read (h : Kp c i S H) (hi : i ≤ 1000) (hn : n < 3) (hk : k < 4) (ho : c.off = false) : readE c n k = 0 ∧ readB c n k = pageAt (blkAt c n) k ∧ (pageAt (blkAt c n) k).length = 5 := by
  have ha : askedN c.off (hasPageB c n k) = 0 := by rw [h.mayP hi hn hk, ho]; rfl
  refine ⟨ha, ?_, ?_⟩
  · unfold readB
    rw [ha, if_neg (by simp)]; rfl
  · obtain ⟨f1, f2, f3, f4, f5⟩ := h.fit hn
    exact f5 _ (List.mem_of_getElem? (pageAt_get (by omega)))
theorem Kp.new : Kp (newChp 3 4 5) 0 (List.replicate 12 false) (List.replicate 12 0) := by
  refine ⟨rfl, rfl, rfl, by decide, by decide, by decide, ?_, rfl, rfl, fun n k hn hk hs => ?_⟩
  · intro b hb
    obtain rfl : b = newBlk 4 5 := by
      unfold newChp at hb
      exact List.eq_of_mem_replicate hb
    refine ⟨rfl, rfl, by decide, by decide, fun p hp => ?_⟩
    have := List.eq_of_mem_replicate (show p ∈ List.replicate 4 (List.replicate 5 255) from hp)
    rw [this]; rfl
  · rw [List.getElem?_replicate] at hs
    split at hs <;> simp at hs
end Go.Proofs.Ytilgppijmkcomaa.Chip
