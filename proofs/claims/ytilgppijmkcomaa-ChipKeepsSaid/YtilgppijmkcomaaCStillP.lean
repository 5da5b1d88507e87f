/- What programming, erasing and marking leave as it was, and what they do: of plain chips. -/
import Derived.Test.YtilgppijmkcomaaChipP
namespace Go.Proofs.Ytilgppijmkcomaa.Chip

theorem short_small {c : Chp} (h : shortB c = true) : c.blocks.length ≤ 65536 ∧ c.faults.length ≤ 65536 ∧ ∀ b ∈ c.blocks, b.pages.length ≤ 65536 ∧ ∀ p ∈ b.pages, p.length ≤ 65536 := by
  unfold shortB shortBlk at h
  simp only [Bool.and_eq_true, decide_eq_true_eq, List.all_eq_true] at h
  obtain ⟨⟨h1, h2⟩, h3⟩ := h
  refine ⟨by omega, by omega, fun b hb => ⟨by have := (h3 b hb).1; omega, fun p hp => by have := (h3 b hb).2 p hp; omega⟩⟩
theorem prog_bytes_all (p : List UInt8) : p.map (fun x => x ||| ~~~(255 : UInt8)) = p := by
  conv => rhs; rw [← List.map_id p]
  refine List.map_congr_left fun x _ => ?_
  apply UInt8.toNat_inj.1
  rw [UInt8.toNat_or]
  show x.toNat ||| 0 = x.toNat
  rw [Nat.or_zero]
variable {c : Chp} {i : Nat} {page : Int} {p : List UInt8}
theorem prog_other (j : Nat) (hj : j ≠ i) : (progC c i page p).blocks[j]? = c.blocks[j]? := by
  unfold progC
  split
  · rfl
  · split
    · rfl
    · show (c.blocks.set _ _)[j]? = _
      rw [List.getElem?_set, if_neg (by simp; omega)]
theorem prog_len : (progC c i page p).blocks.length = c.blocks.length := by
  unfold progC
  split
  · rfl
  · split
    · rfl
    · exact List.length_set
theorem erase_other (j : Nat) (hj : j ≠ i) : (eraseC c i).blocks[j]? = c.blocks[j]? := by
  unfold eraseC
  split
  · rfl
  · split
    · rfl
    · show (c.blocks.set _ _)[j]? = _
      rw [List.getElem?_set, if_neg (by simp; omega)]
theorem erase_len : (eraseC c i).blocks.length = c.blocks.length := by
  unfold eraseC
  split
  · rfl
  · split
    · rfl
    · exact List.length_set
theorem mark_len : (markC c i).blocks.length = c.blocks.length := by
  unfold markC
  split
  · rfl
  · exact List.length_set
theorem prog_bad (hb : (blkAt c i).bad = true) : progC c i page p = c := by
  unfold progC
  split
  · rfl
  · rw [if_pos (.inl hb)]
theorem erase_bad (hb : (blkAt c i).bad = true) : eraseC c i = c := by
  unfold eraseC
  split
  · rfl
  · rw [if_pos (show (blkAt c (i : Int).toNat).bad = true from hb)]
theorem mask_ok {o : Option Flt} (h : errOf o = 0) : maskOf o = 255 := by
  unfold errOf maskOf at *
  cases o with
  | none => rfl
  | some f =>
    cases hc : f.cut
    · cases hf : f.fail
      · simp [hc, hf]
      · simp [hc, hf] at h
    · simp [hc] at h
theorem asked_ok {off may : Bool} (h : askedN off may = 0) : may = true ∧ off = false := by
  cases may <;> cases off <;> simp [askedN] at h ⊢
/-- Programmed without a fault. -/
theorem prog_ok (hi : i < c.blocks.length) (h : progE c i page p = 0) : ∃ (k : Nat) (bD : Blk), page = (k : Int) ∧ (k : Int) < 16 ∧ (progC c i page p).blocks[i]? = some bD ∧ bD.pages[k]? = some p ∧ bD.used = (k : Int) + 1 ∧ (progC c i page p).ops = c.ops + 1 ∧ 0 ≤ c.ops ∧ c.ops < top := by
  unfold progE at h
  split at h
  · rename_i h1; exact absurd h h1
  · rename_i h1
    have h1 := asked_ok (Decidable.not_not.1 h1)
    split at h
    · simp at h
    · rename_i h2
      have hbad : (blkAt c i).bad = false := by cases hb : (blkAt c i).bad; rfl; exact absurd (.inl hb) h2
      have huse : (blkAt c i).used = page := Decidable.not_not.1 fun hu => h2 (.inr hu)
      have hm := h1.1
      unfold mayProg at hm
      simp only [Bool.and_eq_true, decide_eq_true_eq] at hm
      obtain ⟨⟨hp, hl⟩, ho⟩ := hm
      obtain ⟨hr, -, hp0, hp1⟩ := hasPageB_iff.1 hp
      have hf := fitsB_iff.1 ((rightB_iff.1 hr).2.2.2.2.2 _ (List.mem_of_getElem? (blkAt_get hi)))
      have hpg := (rightB_iff.1 hr).2.1
      have hD : progC c i page p = c.counted.setBlk i (progBlk (blkAt c i) page.toNat (maskOf (strikes c)) p) := by
        unfold progC
        rw [if_neg (by rw [show askedN c.off (mayProg c i page p) = 0 by rw [h1.1, h1.2]; rfl]; simp)]
        rw [if_neg h2]
        rfl
      refine ⟨page.toNat, progBlk (blkAt c i) page.toNat (maskOf (strikes c)) p, by omega, by omega, ?_, ?_, ?_, ?_, (rightB_iff.1 hr).2.2.2.1.1, ho⟩
      · rw [hD]
        show (c.blocks.set i _)[i]? = _
        rw [List.getElem?_set, if_pos rfl, if_pos hi]
      · show ((blkAt c i).pages.set page.toNat (progBytes (maskOf (strikes c)) p))[page.toNat]? = _
        rw [List.getElem?_set, if_pos rfl, if_pos (by omega), mask_ok h]
        unfold progBytes
        rw [prog_bytes_all]
      · show (blkAt c i).used + 1 = _
        omega
      · rw [hD]; rfl
/-- Erased without a fault. -/
theorem erase_ok (hi : i < c.blocks.length) (h : eraseE c i = 0) : ∃ bG, (eraseC c i).blocks[i]? = some bG ∧ bG.used = 0 ∧ bG.worn = (blkAt c i).worn + 1 ∧ 0 ≤ (blkAt c i).worn ∧ (blkAt c i).worn < top := by
  unfold eraseE at h
  split at h
  · rename_i h1; exact absurd h h1
  · rename_i h1
    have h1 := asked_ok (Decidable.not_not.1 h1)
    split at h
    · simp at h
    · rename_i h2
      have hm := h1.1
      unfold mayErase at hm
      simp only [Bool.and_eq_true, decide_eq_true_eq] at hm
      obtain ⟨⟨hp, ho⟩, hw⟩ := hm
      obtain ⟨hr, -⟩ := hasBlockB_iff.1 hp
      have hf := fitsB_iff.1 ((rightB_iff.1 hr).2.2.2.2.2 _ (List.mem_of_getElem? (blkAt_get hi)))
      have hG : eraseC c i = c.counted.setBlk i (eraseBlk (blkAt c i) c.pages (errOf (strikes c)) (maskOf (strikes c))) := by
        unfold eraseC
        rw [if_neg (by rw [show askedN c.off (mayErase c i) = 0 by rw [h1.1, h1.2]; rfl]; simp)]
        rw [if_neg h2]
        rfl
      refine ⟨eraseBlk (blkAt c i) c.pages (errOf (strikes c)) (maskOf (strikes c)), ?_, ?_, ?_, hf.2.2.1.1, hw⟩
      · rw [hG]
        show (c.blocks.set i _)[i]? = _
        rw [List.getElem?_set, if_pos rfl, if_pos hi]
      · show (if errOf (strikes c) = 0 then (0 : Int) else c.pages) = 0
        rw [if_pos h]
      · rfl
/-- Other pages of the block that is programmed are as they were. -/
theorem prog_pages {b : Blk} (hi : c.blocks[i]? = some b) : ∃ bD, (progC c i page p).blocks[i]? = some bD ∧ bD.pages.length = b.pages.length ∧ ∀ q : Nat, (q : Int) ≠ page → bD.pages[q]? = b.pages[q]? := by
  have hil := (List.getElem?_eq_some_iff.1 hi).1
  have hb := blkAt_of hi
  unfold progC
  split
  · exact ⟨b, hi, rfl, fun _ _ => rfl⟩
  · rename_i h1
    have h1 := asked_ok (Decidable.not_not.1 h1)
    split
    · exact ⟨b, hi, rfl, fun _ _ => rfl⟩
    · have hm := h1.1
      unfold mayProg at hm
      simp only [Bool.and_eq_true, decide_eq_true_eq] at hm
      obtain ⟨⟨hp, hl⟩, ho⟩ := hm
      obtain ⟨hr, -, hp0, hp1⟩ := hasPageB_iff.1 hp
      refine ⟨progBlk (blkAt c i) page.toNat (maskOf (strikes c)) p, ?_, ?_, fun q hq => ?_⟩
      · show (c.blocks.set i _)[i]? = _
        rw [List.getElem?_set, if_pos rfl, if_pos hil]
        rfl
      · show ((blkAt c i).pages.set _ _).length = _
        rw [List.length_set, hb]
      · show ((blkAt c i).pages.set page.toNat _)[q]? = _
        rw [List.getElem?_set, if_neg (by omega), hb]
theorem mark_ok (hi : i < c.blocks.length) (h : markE c i = 0) : ∃ bM, (markC c i).blocks[i]? = some bM ∧ bM.bad = true ∧ (markC c i).ops = c.ops := by
  have hM : markC c i = c.setBlk i { blkAt c i with bad := true } := by
    unfold markC
    rw [if_neg (by rw [show askedN c.off (hasBlockB c i) = 0 from h]; simp)]
    rfl
  rw [hM]
  refine ⟨{ blkAt c i with bad := true }, ?_, rfl, rfl⟩
  show (c.blocks.set i _)[i]? = _
  rw [List.getElem?_set, if_pos rfl, if_pos hi]
end Go.Proofs.Ytilgppijmkcomaa.Chip
