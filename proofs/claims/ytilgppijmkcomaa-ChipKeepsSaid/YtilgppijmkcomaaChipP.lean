/- A chip as plain lists: which one is right, and what each call makes of it. -/
import Derived.KernelRfl
namespace Go.Proofs.Ytilgppijmkcomaa.Chip

structure Flt where
  op : Int
  fail : Bool
  cut : Bool
  mask : UInt8
structure Blk where
  pages : List (List UInt8)
  used : Int
  worn : Int
  bad : Bool
structure Chp where
  pages : Int
  size : Int
  blocks : List Blk
  ops : Int
  off : Bool
  faults : List Flt
instance : Inhabited Blk := ⟨⟨[], 0, 0, false⟩⟩

def top : Int := 1099511627776
def withinB (n lo hi : Int) : Bool := decide (lo ≤ n) && decide (n ≤ hi)
def shapedB (b p s : Int) : Bool := withinB b 1 32 && withinB p 1 16 && withinB s 1 256
def longB (size : Int) (p : List UInt8) : Bool := decide (¬ (p.length : Int) = size)
def fitsB (b : Blk) (pages size : Int) : Bool := decide ((b.pages.length : Int) = pages) && withinB b.used 0 pages && withinB b.worn 0 top && !b.pages.any (longB size)
def unfitB (pages size : Int) (b : Blk) : Bool := !fitsB b pages size
def rightB (c : Chp) : Bool := shapedB c.blocks.length c.pages c.size && withinB c.ops 0 top && decide ((c.faults.length : Int) ≤ 64) && !c.blocks.any (unfitB c.pages c.size)
def hasBlockB (c : Chp) (block : Int) : Bool := rightB c && withinB block 0 ((c.blocks.length : Int) - 1)
def hasPageB (c : Chp) (block page : Int) : Bool := hasBlockB c block && withinB page 0 (c.pages - 1)
def askedN (off may : Bool) : Int := if may = true then (if off = true then 7 else 0) else 1

def blkAt (c : Chp) (i : Nat) : Blk := c.blocks.getD i default
def pageAt (b : Blk) (k : Nat) : List UInt8 := b.pages.getD k []
def Chp.setBlk (c : Chp) (i : Nat) (b : Blk) : Chp := { c with blocks := c.blocks.set i b }
def Blk.setPage (b : Blk) (k : Nat) (p : List UInt8) : Blk := { b with pages := b.pages.set k p }

/-- What strikes the next operation: the mask, and the error. -/
def hitOf (ops : Int) (fs : List Flt) : Option Flt := fs.find? fun f => decide (f.op = ops)
def maskOf : Option Flt → UInt8
  | some f => if f.cut = true then f.mask else if f.fail = true then f.mask else 255
  | none => 255
def errOf : Option Flt → Int
  | some f => if f.cut = true then 7 else if f.fail = true then 9 else 0
  | none => 0
def cutOf : Option Flt → Bool
  | some f => f.cut
  | none => false
def strikes (c : Chp) : Option Flt := hitOf c.ops c.faults
def Chp.counted (c : Chp) : Chp := { c with ops := c.ops + 1, off := c.off || cutOf (strikes c) }

def mayProg (c : Chp) (block page : Int) (p : List UInt8) : Bool := hasPageB c block page && decide ((p.length : Int) = c.size) && decide (c.ops < top)
def progBytes (mask : UInt8) (p : List UInt8) : List UInt8 := p.map fun x => x ||| ~~~mask
def progBlk (b : Blk) (k : Nat) (mask : UInt8) (p : List UInt8) : Blk := { b with pages := b.pages.set k (progBytes mask p), used := b.used + 1 }
def progE (c : Chp) (block page : Int) (p : List UInt8) : Int :=
  if askedN c.off (mayProg c block page p) ≠ 0 then askedN c.off (mayProg c block page p)
  else if (blkAt c block.toNat).bad = true ∨ (blkAt c block.toNat).used ≠ page then 9 else errOf (strikes c)
def progC (c : Chp) (block page : Int) (p : List UInt8) : Chp :=
  if askedN c.off (mayProg c block page p) ≠ 0 then c
  else if (blkAt c block.toNat).bad = true ∨ (blkAt c block.toNat).used ≠ page then c
  else c.counted.setBlk block.toNat (progBlk (blkAt c block.toNat) page.toNat (maskOf (strikes c)) p)

def mayErase (c : Chp) (block : Int) : Bool := hasBlockB c block && decide (c.ops < top) && decide ((blkAt c block.toNat).worn < top)
def eraseBytes (mask : UInt8) (p : List UInt8) : List UInt8 := p.map fun x => x ||| mask
def eraseBlk (b : Blk) (pages : Int) (e : Int) (mask : UInt8) : Blk := { b with pages := b.pages.map (eraseBytes mask), used := if e = 0 then 0 else pages, worn := b.worn + 1 }
def eraseE (c : Chp) (block : Int) : Int :=
  if askedN c.off (mayErase c block) ≠ 0 then askedN c.off (mayErase c block)
  else if (blkAt c block.toNat).bad = true then 9 else errOf (strikes c)
def eraseC (c : Chp) (block : Int) : Chp :=
  if askedN c.off (mayErase c block) ≠ 0 then c
  else if (blkAt c block.toNat).bad = true then c
  else c.counted.setBlk block.toNat (eraseBlk (blkAt c block.toNat) c.pages (errOf (strikes c)) (maskOf (strikes c)))

def markE (c : Chp) (block : Int) : Int := askedN c.off (hasBlockB c block)
def markC (c : Chp) (block : Int) : Chp := if askedN c.off (hasBlockB c block) ≠ 0 then c else c.setBlk block.toNat { blkAt c block.toNat with bad := true }
def onB (c : Chp) (fs : List Flt) : Bool := rightB c && decide ((fs.length : Int) ≤ 64)
def onE (c : Chp) (fs : List Flt) : Int := if onB c fs = true then 0 else 1
def onC (c : Chp) (fs : List Flt) : Chp := if onB c fs = true then { c with off := false, faults := fs } else c
def readE (c : Chp) (block page : Int) : Int := askedN c.off (hasPageB c block page)
def readB (c : Chp) (block page : Int) : List UInt8 := if askedN c.off (hasPageB c block page) ≠ 0 then [] else pageAt (blkAt c block.toNat) page.toNat
def chp0 : Chp := ⟨0, 0, [], 0, false, []⟩
def newBlk (pages size : Nat) : Blk := ⟨List.replicate pages (List.replicate size 255), 0, 0, false⟩
def newChp (blocks pages size : Nat) : Chp := ⟨pages, size, List.replicate blocks (newBlk pages size), 0, false, []⟩

/-! ### What the document's functions tell -/
def sameFlt (a b : Flt) : Bool := decide (a.op = b.op) && (a.fail == b.fail) && (a.cut == b.cut) && decide (a.mask = b.mask)
def sameBlk (a b : Blk) : Bool := decide (a.used = b.used) && decide (a.worn = b.worn) && (a.bad == b.bad) && decide (a.pages = b.pages)
def sameChp (a b : Chp) : Bool := decide (a.pages = b.pages) && decide (a.size = b.size) && decide (a.ops = b.ops) && (a.off == b.off) && (decide (a.faults.length = b.faults.length) && (List.zipWith sameFlt a.faults b.faults).all id) && (decide (a.blocks.length = b.blocks.length) && (List.zipWith sameBlk a.blocks b.blocks).all id)
def shortBlk (b : Blk) : Bool := decide (b.pages.length ≤ 20) && b.pages.all fun p => decide (p.length ≤ 300)
def shortB (c : Chp) : Bool := decide (c.blocks.length ≤ 40) && decide (c.faults.length ≤ 80) && c.blocks.all shortBlk

theorem withinB_iff {n lo hi : Int} : withinB n lo hi = true ↔ lo ≤ n ∧ n ≤ hi := by simp [withinB]
theorem rightB_iff {c : Chp} : rightB c = true ↔ (1 ≤ (c.blocks.length : Int) ∧ (c.blocks.length : Int) ≤ 32) ∧ (1 ≤ c.pages ∧ c.pages ≤ 16) ∧ (1 ≤ c.size ∧ c.size ≤ 256) ∧ (0 ≤ c.ops ∧ c.ops ≤ top) ∧ (c.faults.length : Int) ≤ 64 ∧ ∀ b ∈ c.blocks, fitsB b c.pages c.size = true := by
  unfold rightB shapedB unfitB
  simp only [Bool.and_eq_true, withinB_iff, decide_eq_true_eq, Bool.not_eq_true', List.any_eq_false, Bool.not_eq_false]
  constructor
  · rintro ⟨⟨⟨⟨⟨a, b⟩, c⟩, d⟩, e⟩, f⟩; exact ⟨a, b, c, d, e, f⟩
  · rintro ⟨a, b, c, d, e, f⟩; exact ⟨⟨⟨⟨⟨a, b⟩, c⟩, d⟩, e⟩, f⟩
theorem fitsB_iff {b : Blk} {pages size : Int} : fitsB b pages size = true ↔ (b.pages.length : Int) = pages ∧ (0 ≤ b.used ∧ b.used ≤ pages) ∧ (0 ≤ b.worn ∧ b.worn ≤ top) ∧ ∀ p ∈ b.pages, (p.length : Int) = size := by
  unfold fitsB longB
  simp only [Bool.and_eq_true, withinB_iff, decide_eq_true_eq, Bool.not_eq_true', List.any_eq_false, Decidable.not_not]
  constructor
  · rintro ⟨⟨⟨a, b⟩, c⟩, d⟩; exact ⟨a, b, c, d⟩
  · rintro ⟨a, b, c, d⟩; exact ⟨⟨⟨a, b⟩, c⟩, d⟩
theorem blkAt_get {c : Chp} {i : Nat} (h : i < c.blocks.length) : c.blocks[i]? = some (blkAt c i) := by
  unfold blkAt; rw [List.getElem?_eq_getElem h, List.getD_eq_getElem?_getD, List.getElem?_eq_getElem h]; rfl
theorem pageAt_get {b : Blk} {k : Nat} (h : k < b.pages.length) : b.pages[k]? = some (pageAt b k) := by
  unfold pageAt; rw [List.getElem?_eq_getElem h, List.getD_eq_getElem?_getD, List.getElem?_eq_getElem h]; rfl
theorem blkAt_of {c : Chp} {i : Nat} {b : Blk} (h : c.blocks[i]? = some b) : blkAt c i = b := by
  unfold blkAt; rw [List.getD_eq_getElem?_getD, h]; rfl
theorem pageAt_of {b : Blk} {k : Nat} {p : List UInt8} (h : b.pages[k]? = some p) : pageAt b k = p := by
  unfold pageAt; rw [List.getD_eq_getElem?_getD, h]; rfl
theorem hasBlockB_iff {c : Chp} {block : Int} : hasBlockB c block = true ↔ rightB c = true ∧ 0 ≤ block ∧ block < c.blocks.length := by
  unfold hasBlockB; rw [Bool.and_eq_true, withinB_iff]; exact ⟨fun ⟨a, b, c⟩ => ⟨a, b, by omega⟩, fun ⟨a, b, c⟩ => ⟨a, b, by omega⟩⟩
theorem hasPageB_iff {c : Chp} {block page : Int} : hasPageB c block page = true ↔ rightB c = true ∧ (0 ≤ block ∧ block < c.blocks.length) ∧ 0 ≤ page ∧ page < c.pages := by
  unfold hasPageB; rw [Bool.and_eq_true, hasBlockB_iff, withinB_iff]; exact ⟨fun ⟨⟨a, b⟩, c, d⟩ => ⟨a, b, c, by omega⟩, fun ⟨a, b, c, d⟩ => ⟨⟨a, b⟩, c, by omega⟩⟩
end Go.Proofs.Ytilgppijmkcomaa.Chip
