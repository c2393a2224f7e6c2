import PyProof.Rows.All
import Wide.All
import OpenK.AllK
import Wide.FinOn
import HandS.ForMost
import HandS.Walk
import HandS.Wide
import HandS.Flow
import HandS.Codes
import HandS.IsInst
import HandS.Style
import KE.DataAny
import KE.DataCmp
import HandS.RevRange
import HandS.Conv
import HandS.Exc
import HandS.TryOnly
import HandS.ExcOwn
import HandS.ExcIs
import HandS.WordsExc
import HandS.AnyAll
import HandS.GenList
import HandS.EndTab
import HandS.More
import PyProof.ZipIter
import KE.KStar
import HandS.Star
import PySem.Challenge.RW_stillspans_k02_low_known
set_option Elab.async false
set_option linter.all false
set_option maxRecDepth 100000
/-! Spans of rows by a prime, in plain Lean: low lists, the form, that each span has just one. -/
namespace My
abbrev Row := List Int
def ent (r : Row) (j : Nat) : Int := r.getD j 0
/-- congruent -/
def cg (p a b : Int) : Prop := ∃ k, a = b + p * k
section
variable {p a b c d x y : Int}
theorem cg.refl (p a : Int) : cg p a a := ⟨0, by grind⟩
theorem cg.of_eq (h : a = b) : cg p a b := h ▸ cg.refl p a
theorem cg.symm (h : cg p a b) : cg p b a := by
  obtain ⟨k, h⟩ := h
  exact ⟨-k, by grind⟩
theorem cg.trans (h : cg p a b) (h2 : cg p b c) : cg p a c := by
  obtain ⟨k, h⟩ := h
  obtain ⟨l, h2⟩ := h2
  exact ⟨k + l, by grind⟩
theorem cg.add (h : cg p a b) (h2 : cg p c d) : cg p (a + c) (b + d) := by
  obtain ⟨k, h⟩ := h
  obtain ⟨l, h2⟩ := h2
  exact ⟨k + l, by grind⟩
theorem cg.sub (h : cg p a b) (h2 : cg p c d) : cg p (a - c) (b - d) := by
  obtain ⟨k, h⟩ := h
  obtain ⟨l, h2⟩ := h2
  exact ⟨k - l, by grind⟩
theorem cg.mul (h : cg p a b) (h2 : cg p c d) : cg p (a * c) (b * d) := by
  obtain ⟨k, h⟩ := h
  obtain ⟨l, h2⟩ := h2
  exact ⟨k * d + b * l + p * k * l, by grind⟩
theorem cg.emod (p a : Int) : cg p (a % p) a := ⟨-(a / p), by have := Int.emod_def a p; grind⟩
theorem cg.iff : cg p a b ↔ a % p = b % p := by
  constructor
  · rintro ⟨k, rfl⟩
    exact Int.add_mul_emod_self_left b p k
  · intro h
    exact (cg.emod p a).symm.trans ((cg.of_eq h).trans (cg.emod p b))
theorem cg.eq (h : cg p a b) (ha : 0 ≤ a) (ha' : a < p) (hb : 0 ≤ b) (hb' : b < p) : a = b := by
  have e := cg.iff.mp h
  rw [Int.emod_eq_of_lt ha ha', Int.emod_eq_of_lt hb hb'] at e
  exact e
theorem one_ne (hp : 2 ≤ p) : ¬ cg p 1 0 := fun h => by
  have := h.eq (by omega) (by omega) (by omega) (by omega)
  omega
end
theorem getD_el {α : Type} (l : List α) (d : α) {j : Nat} (h : j < l.length) : l.getD j d = l[j] := by
  rw [List.getD_eq_getElem?_getD, List.getElem?_eq_getElem h]
  rfl
/-- a row of length n of rests -/
structure Wf (p : Int) (n : Nat) (r : Row) : Prop where
  len : r.length = n
  rng : ∀ x ∈ r, 0 ≤ x ∧ x < p
theorem ent_mem {r : Row} {j : Nat} (h : j < r.length) : ent r j ∈ r := by
  unfold ent
  rw [getD_el _ _ h]
  exact List.getElem_mem h
theorem ent_some {r : Row} {j : Nat} (h : j < r.length) : r[j]? = some (ent r j) := by
  unfold ent
  rw [getD_el _ _ h, List.getElem?_eq_getElem h]
theorem Wf.ent {p : Int} {n : Nat} {r : Row} (w : Wf p n r) {j : Nat} (h : j < n) : 0 ≤ ent r j ∧ My.ent r j < p := w.rng _ (ent_mem (w.len ▸ h))
theorem row_ext {p : Int} {n : Nat} {r s : Row} (a : Wf p n r) (b : Wf p n s) (h : ∀ j, j < n → cg p (ent r j) (ent s j)) : r = s := by
  refine List.ext_getElem? fun j => ?_
  by_cases hj : j < n
  · rw [ent_some (a.len ▸ hj), ent_some (b.len ▸ hj), (h j hj).eq (a.ent hj).1 (a.ent hj).2 (b.ent hj).1 (b.ent hj).2]
  · rw [List.getElem?_eq_none (by have := a.len; omega), List.getElem?_eq_none (by have := b.len; omega)]

/-! ### spans -/
def Z (p : Int) (n : Nat) (v : Nat → Int) : Prop := ∀ j, j < n → cg p (v j) 0
/-- in the span of R -/
inductive Spn (p : Int) (n : Nat) (R : List Row) : (Nat → Int) → Prop
  | zero {v} (h : Z p n v) : Spn p n R v
  | add {u v r} (c : Int) (hr : r ∈ R) (hu : Spn p n R u) (h : ∀ j, j < n → cg p (v j) (u j + c * ent r j)) : Spn p n R v
section
variable {p : Int} {n : Nat} {R S : List Row} {u v : Nat → Int}
theorem Spn.cong (h : Spn p n R u) (e : ∀ j, j < n → cg p (v j) (u j)) : Spn p n R v := by
  cases h with
  | zero h => exact .zero fun j hj => (e j hj).trans (h j hj)
  | add c hr hu h => exact .add c hr hu fun j hj => (e j hj).trans (h j hj)
theorem Spn.lin (c : Int) (hu : Spn p n R u) (hv : Spn p n R v) : Spn p n R (fun j => u j + c * v j) := by
  induction hv with
  | zero h =>
    refine hu.cong fun j hj => ?_
    have := (cg.refl p (u j)).add ((cg.refl p c).mul (h j hj))
    exact this.trans (cg.of_eq (by grind))
  | add d hr hw h ih =>
    refine .add (c * d) hr ih fun j hj => ?_
    have := (cg.refl p (u j)).add ((cg.refl p c).mul (h j hj))
    exact this.trans (cg.of_eq (by grind))
theorem Spn.mem {r : Row} (h : r ∈ R) : Spn p n R (ent r) := .add (u := fun _ => 0) 1 h (.zero fun _ _ => cg.refl _ _) fun j _ => cg.of_eq (by grind)
theorem Spn.mono (h : ∀ r ∈ R, Spn p n S (ent r)) (hv : Spn p n R v) : Spn p n S v := by
  induction hv with
  | zero h => exact .zero h
  | add c hr _ e ih => exact (ih.lin c (h _ hr)).cong e
theorem Spn.incl (h : ∀ r ∈ R, r ∈ S) (hv : Spn p n R v) : Spn p n S v := hv.mono fun r hr => .mem (h r hr)
end
/-! ### what the rows of a low list leave of a row -/
def red : List Row → List Nat → (Nat → Int) → Nat → Int
  | r :: F, l :: ls, v => red F ls (fun j => v j - v l * ent r j)
  | _, _, v => v
theorem red_nil (ls : List Nat) (v : Nat → Int) : red [] ls v = v := by
  cases ls <;> rfl
theorem red_lin (c : Int) : ∀ (F : List Row) (ls : List Nat) (u v : Nat → Int) (j : Nat), red F ls (fun j => u j + c * v j) j = red F ls u j + c * red F ls v j
  | [], ls, u, v, j => by rw [red_nil, red_nil, red_nil]
  | r :: F, [], u, v, j => rfl
  | r :: F, l :: ls, u, v, j => by
    have e : (fun j => (u j + c * v j) - (u l + c * v l) * ent r j) = fun j => (u j - u l * ent r j) + c * (v j - v l * ent r j) := by
      funext j
      grind
    show red F ls (fun j => (u j + c * v j) - (u l + c * v l) * ent r j) j = _
    rw [e, red_lin c F ls]
    rfl
/-- each row has 1 at its own lead, 0 at the others' -/
def Dl (p : Int) (F : List Row) (ls : List Nat) : Prop := ls.length = F.length ∧ ∀ (i k : Nat) r l, F[i]? = some r → ls[k]? = some l → ent r l = if i = k then 1 else 0
theorem Dl.tail {p : Int} {r : Row} {F : List Row} {l : Nat} {ls : List Nat} (h : Dl p (r :: F) (l :: ls)) : Dl p F ls := by
  refine ⟨by simpa using h.1, fun i k s m hi hk => ?_⟩
  have := h.2 (i + 1) (k + 1) s m hi hk
  rw [this]
  by_cases e : i = k
  · rw [if_pos e, if_pos (by omega)]
  · rw [if_neg e, if_neg (by omega)]
theorem red_zero {p : Int} {n : Nat} : ∀ {F : List Row} {ls : List Nat} {v : Nat → Int}, (∀ l ∈ ls, l < n) → Z p n v → Z p n (red F ls v)
  | [], ls, v, _, h => by rw [red_nil]; exact h
  | r :: F, [], v, _, h => h
  | r :: F, l :: ls, v, hl, h => by
    refine red_zero (F := F) (ls := ls) (fun m hm => hl m (List.mem_cons_of_mem _ hm)) fun j hj => ?_
    have := (h j hj).sub ((h l (hl l List.mem_cons_self)).mul (cg.refl p (ent r j)))
    exact this.trans (cg.of_eq (by grind))
theorem red_keep {p : Int} {n : Nat} : ∀ {F : List Row} {ls : List Nat} {v : Nat → Int}, (∀ l ∈ ls, l < n) → (∀ l ∈ ls, cg p (v l) 0) → ∀ j, j < n → cg p (red F ls v j) (v j)
  | [], ls, v, _, _, j, _ => by rw [red_nil]; exact cg.refl _ _
  | r :: F, [], v, _, _, j, _ => cg.refl _ _
  | r :: F, l :: ls, v, hn, hl, j, hj => by
    have a : ∀ j, cg p (v j - v l * ent r j) (v j) := fun j => by
      have := (cg.refl p (v j)).sub ((hl l List.mem_cons_self).mul (cg.refl p (ent r j)))
      exact this.trans (cg.of_eq (by grind))
    refine (red_keep (F := F) (ls := ls) (fun m hm => hn m (List.mem_cons_of_mem _ hm)) (fun m hm => ?_) j hj).trans (a j)
    exact (a m).trans (hl m (List.mem_cons_of_mem _ hm))
theorem red_row {p : Int} {n : Nat} : ∀ {F : List Row} {ls : List Nat} {r : Row}, Dl p F ls → (∀ l ∈ ls, l < n) → r ∈ F → Z p n (red F ls (ent r))
  | s :: F, [], r, h, _, _ => by simp [Dl] at h
  | s :: F, l :: ls, r, h, hl, hr => by
    have hl' : ∀ m ∈ ls, m < n := fun m hm => hl m (List.mem_cons_of_mem _ hm)
    rcases List.mem_cons.mp hr with rfl | hr
    · refine red_zero (F := F) (ls := ls) hl' fun j hj => ?_
      have e := h.2 0 0 r l rfl rfl
      rw [if_pos rfl] at e
      rw [e]
      exact cg.of_eq (by grind)
    · obtain ⟨i, hi⟩ := List.getElem?_of_mem hr
      have e := h.2 (i + 1) 0 r l hi rfl
      rw [if_neg (by omega)] at e
      have q := red_row h.tail hl' hr
      show Z p n (red F ls (fun j => ent r j - ent r l * ent s j))
      rw [e]
      have e2 : (fun j => ent r j - 0 * ent s j) = ent r := by
        funext j
        grind
      rw [e2]
      exact q
theorem spn_red {p : Int} {n : Nat} {F : List Row} {ls : List Nat} (h : Dl p F ls) (hl : ∀ l ∈ ls, l < n) {v : Nat → Int} (hv : Spn p n F v) : Z p n (red F ls v) := by
  induction hv with
  | zero h => exact red_zero hl h
  | @add u v r c hr hu e ih =>
    have q := red_row h hl hr
    have e1 : Z p n (red F ls (fun j => u j + c * ent r j)) := fun j hj => by
      rw [red_lin c F ls u (ent r) j]
      have := (ih j hj).add ((cg.refl p c).mul (q j hj))
      exact this.trans (cg.of_eq (by grind))
    have e2 : Z p n (red F ls (fun j => v j + (-1) * (u j + c * ent r j))) := red_zero hl fun j hj => by
      have := (e j hj).add (cg.refl p ((-1) * (u j + c * ent r j)))
      exact this.trans (cg.of_eq (by grind))
    intro j hj
    have a := e2 j hj
    rw [red_lin (-1) F ls v _ j] at a
    have := a.add (e1 j hj)
    exact (cg.of_eq (by grind)).trans this
theorem spn_sub {p : Int} {n : Nat} {R : List Row} : ∀ {F : List Row} {ls : List Nat} {v : Nat → Int}, (∀ r ∈ F, r ∈ R) → Spn p n R (fun j => v j - red F ls v j)
  | [], ls, v, _ => by
    rw [red_nil]
    exact .zero fun j _ => cg.of_eq (by grind)
  | r :: F, [], v, _ => .zero fun j _ => cg.of_eq (by show v j - v j = 0; grind)
  | r :: F, l :: ls, v, h => by
    have q := spn_sub (p := p) (n := n) (R := R) (F := F) (ls := ls) (v := fun j => v j - v l * ent r j) fun s hs => h s (List.mem_cons_of_mem _ hs)
    exact .add (v l) (h r List.mem_cons_self) q fun j _ => cg.of_eq (by
      show v j - red F ls (fun j => v j - v l * ent r j) j = (v j - v l * ent r j - red F ls (fun j => v j - v l * ent r j) j) + v l * ent r j
      grind)
theorem red_lead {p : Int} {n : Nat} : ∀ {F : List Row} {ls : List Nat} {v : Nat → Int} {j : Nat}, (∀ (i : Nat) r l, F[i]? = some r → ls[i]? = some l → ∀ m, m < l → ent r m = 0) → j < n → Z p n (red F ls v) → (∀ i, i < j → cg p (v i) 0) → ¬ cg p (v j) 0 → j ∈ ls
  | [], ls, v, j, _, hj, h, _, h2 => by
    rw [red_nil] at h
    exact absurd (h j hj) h2
  | r :: F, [], v, j, _, hj, h, _, h2 => absurd (h j hj) h2
  | r :: F, l :: ls, v, j, hb, hj, h, h1, h2 => by
    by_cases e : j = l
    · rw [e]
      exact List.mem_cons_self
    · refine List.mem_cons_of_mem _ (red_lead (F := F) (ls := ls) (v := fun j => v j - v l * ent r j) (fun i s m hi hm => hb (i + 1) s m hi hm) hj h (fun i hi => ?_) fun z => h2 ?_)
      · by_cases hl : l < j
        · have := (h1 i hi).sub ((h1 l hl).mul (cg.refl p (ent r i)))
          exact this.trans (cg.of_eq (by grind))
        · have e0 : ent r i = 0 := hb 0 r l rfl rfl i (by omega)
          show cg p (v i - v l * ent r i) 0
          rw [e0]
          exact (cg.of_eq (by grind)).trans (h1 i hi)
      · by_cases hl : l < j
        · have := (cg.refl p (v j)).sub ((h1 l hl).mul (cg.refl p (ent r j)))
          have q : cg p (v j - v l * ent r j) (v j) := this.trans (cg.of_eq (by grind))
          exact q.symm.trans z
        · have e0 : ent r j = 0 := hb 0 r l rfl rfl j (by omega)
          have z : cg p (v j - v l * ent r j) 0 := z
          rw [e0] at z
          exact (cg.of_eq (by grind)).trans z
/-! ### low lists -/
structure Low (p : Int) (n : Nat) (F : List Row) (ls : List Nat) : Prop where
  wf : ∀ r ∈ F, Wf p n r
  dl : Dl p F ls
  lt : ∀ l ∈ ls, l < n
  up : ls.Pairwise (· < ·)
  zb : ∀ (i : Nat) r l, F[i]? = some r → ls[i]? = some l → ∀ m, m < l → ent r m = 0
theorem sorted_eq : ∀ {a b : List Nat}, a.Pairwise (· < ·) → b.Pairwise (· < ·) → (∀ x, x ∈ a ↔ x ∈ b) → a = b
  | [], [], _, _, _ => rfl
  | [], y :: b, _, _, h => absurd ((h y).mpr List.mem_cons_self) (by simp)
  | x :: a, [], _, _, h => absurd ((h x).mp List.mem_cons_self) (by simp)
  | x :: a, y :: b, ha, hb, h => by
    have a1 := List.pairwise_cons.mp ha
    have b1 := List.pairwise_cons.mp hb
    have e : x = y := by
      rcases List.mem_cons.mp ((h x).mp List.mem_cons_self) with e | m
      · exact e
      · rcases List.mem_cons.mp ((h y).mpr List.mem_cons_self) with e | m2
        · exact e.symm
        · have := b1.1 x m
          have := a1.1 y m2
          omega
    subst e
    rw [sorted_eq a1.2 b1.2 fun z => ⟨fun hz => ?_, fun hz => ?_⟩]
    · rcases List.mem_cons.mp ((h z).mp (List.mem_cons_of_mem _ hz)) with e | m
      · subst e
        exact absurd (a1.1 z hz) (Nat.lt_irrefl _)
      · exact m
    · rcases List.mem_cons.mp ((h z).mpr (List.mem_cons_of_mem _ hz)) with e | m
      · subst e
        exact absurd (b1.1 z hz) (Nat.lt_irrefl _)
      · exact m
theorem lead_in {p : Int} {n : Nat} {F G : List Row} {ls ms : List Nat} (hp : 2 ≤ p) (hF : Low p n F ls) (hG : Low p n G ms) (h : ∀ r ∈ F, Spn p n G (ent r)) : ∀ l ∈ ls, l ∈ ms := by
  intro l hl
  obtain ⟨i, hi⟩ := List.getElem?_of_mem hl
  have hi' : i < F.length := by
    have := (List.getElem?_eq_some_iff.mp hi).1
    rw [hF.dl.1] at this
    exact this
  have hr : F[i]? = some F[i] := List.getElem?_eq_getElem hi'
  have q := spn_red hG.dl hG.lt (h _ (List.getElem_mem hi'))
  refine red_lead hG.zb (hF.lt l hl) q (fun j hj => cg.of_eq (hF.zb i _ l hr hi j hj)) ?_
  rw [hF.dl.2 i i _ l hr hi, if_pos rfl]
  exact one_ne hp
theorem low_unique {p : Int} {n : Nat} {F G : List Row} {ls ms : List Nat} (hp : 2 ≤ p) (hF : Low p n F ls) (hG : Low p n G ms) (h1 : ∀ r ∈ F, Spn p n G (ent r)) (h2 : ∀ r ∈ G, Spn p n F (ent r)) : F = G := by
  have e : ls = ms := sorted_eq hF.up hG.up fun l => ⟨lead_in hp hF hG h1 l, lead_in hp hG hF h2 l⟩
  subst e
  have len : F.length = G.length := hF.dl.1.symm.trans hG.dl.1
  refine List.ext_getElem len fun i hi hi' => ?_
  refine row_ext (hF.wf _ (List.getElem_mem hi)) (hG.wf _ (List.getElem_mem hi')) fun j hj => ?_
  have s : Spn p n F (fun j => ent F[i] j + (-1) * ent G[i] j) := (Spn.mem (List.getElem_mem hi)).lin (-1) (h2 _ (List.getElem_mem hi'))
  have z := spn_red hF.dl hF.lt s
  have k := red_keep (p := p) (F := F) hF.lt (v := fun j => ent F[i] j + (-1) * ent G[i] j) (fun l hl => by
    obtain ⟨k, hk⟩ := List.getElem?_of_mem hl
    rw [hF.dl.2 i k _ l (List.getElem?_eq_getElem hi) hk, hG.dl.2 i k _ l (List.getElem?_eq_getElem hi') hk]
    exact cg.of_eq (by grind)) j hj
  have q := (k.symm.trans (z j hj)).add (cg.refl p (ent G[i] j))
  exact (cg.of_eq (by grind)).trans (q.trans (cg.of_eq (by grind)))
/-! ### the form -/
def lessR (p : Int) (row : Row) (c : Int) (by_ : Row) : Row := List.zipWith (fun a b => (a - c * b) % p) row by_
def mulR (p c : Int) (row : Row) : Row := row.map fun x => c * x % p
def clearM (p : Int) (pl : Nat) (by_ : Row) (M : List Row) : List Row := M.map fun r => lessR p r (ent r pl) by_
def pick (pl : Nat) (left : List Row) : Option Nat := left.findIdx? fun r => decide (ent r pl ≠ 0)
def stepM (p : Int) (inv : Int → Int) (pl : Nat) (s : List Row × List Row) : List Row × List Row :=
  match pick pl s.2 with
  | none => s
  | some at_ => let r := s.2.getD at_ []; let row := mulR p (inv (ent r pl)) r
    (clearM p pl row s.1 ++ [row], clearM p pl row (s.2.eraseIdx at_))
def runM (p : Int) (inv : Int → Int) (rows : List Row) : Nat → List Row × List Row
  | 0 => ([], rows)
  | k + 1 => stepM p inv k (runM p inv rows k)
def lenM (rows : List Row) : Nat := match rows with | [] => 0 | r :: _ => r.length
def lowM (p : Int) (inv : Int → Int) (rows : List Row) : List Row := (runM p inv rows (lenM rows)).1
/-- what the contrary is for -/
def InvOk (p : Int) (inv : Int → Int) : Prop := ∀ x, 0 < x → x < p → inv x * x % p = 1
section
variable {p : Int} {n : Nat} {inv : Int → Int}
theorem lessR_len {row b : Row} {c : Int} (h : Wf p n row) (h2 : Wf p n b) : (lessR p row c b).length = n := by
  unfold lessR
  rw [List.length_zipWith, h.len, h2.len, Nat.min_self]
theorem lessR_ent {row b : Row} {c : Int} (h : Wf p n row) (h2 : Wf p n b) {j : Nat} (hj : j < n) : ent (lessR p row c b) j = (ent row j - c * ent b j) % p := by
  have a := ent_some (r := lessR p row c b) (j := j) (by rw [lessR_len h h2]; exact hj)
  unfold lessR at a
  rw [List.getElem?_zipWith, ent_some (by rw [h.len]; exact hj), ent_some (by rw [h2.len]; exact hj)] at a
  exact (Option.some.inj a).symm
theorem lessR_wf (hp : 0 < p) {row b : Row} {c : Int} (h : Wf p n row) (h2 : Wf p n b) : Wf p n (lessR p row c b) := by
  refine ⟨lessR_len h h2, fun x hx => ?_⟩
  obtain ⟨j, hj, rfl⟩ := List.getElem_of_mem hx
  have hj' : j < n := by rw [lessR_len h h2] at hj; exact hj
  have e := lessR_ent (c := c) h h2 hj'
  unfold ent at e
  rw [getD_el _ _ hj] at e
  rw [e]
  exact ⟨Int.emod_nonneg _ (by omega), Int.emod_lt_of_pos _ hp⟩
theorem lessR_zero {row b : Row} (h : Wf p n row) (h2 : Wf p n b) : lessR p row 0 b = row := by
  refine List.ext_getElem (by rw [lessR_len h h2, h.len]) fun j hj hj' => ?_
  have hj'' : j < n := by rw [h.len] at hj'; exact hj'
  have e := lessR_ent (c := 0) h h2 hj''
  unfold ent at e
  rw [getD_el _ _ hj, getD_el _ _ hj'] at e
  rw [e]
  have := h.rng _ (List.getElem_mem hj')
  rw [Int.zero_mul, Int.sub_zero]
  exact Int.emod_eq_of_lt this.1 this.2
theorem mulR_wf (hp : 0 < p) {row : Row} {c : Int} (h : Wf p n row) : Wf p n (mulR p c row) := by
  refine ⟨by unfold mulR; rw [List.length_map, h.len], fun x hx => ?_⟩
  obtain ⟨y, _, rfl⟩ := List.mem_map.mp hx
  exact ⟨Int.emod_nonneg _ (by omega), Int.emod_lt_of_pos _ hp⟩
theorem mulR_ent {row : Row} {c : Int} (h : Wf p n row) {j : Nat} (hj : j < n) : ent (mulR p c row) j = c * ent row j % p := by
  have a := ent_some (r := mulR p c row) (j := j) (by unfold mulR; rw [List.length_map, h.len]; exact hj)
  unfold mulR at a
  rw [List.getElem?_map, ent_some (by rw [h.len]; exact hj)] at a
  exact (Option.some.inj a).symm
/-- what holds ahead of the place pl -/
structure Run (p : Int) (n : Nat) (rows : List Row) (pl : Nat) (s : List Row × List Row) (ls : List Nat) : Prop where
  low : Low p n s.1 ls
  lt : ∀ l ∈ ls, l < pl
  wf : ∀ r ∈ s.2, Wf p n r
  zb : ∀ r ∈ s.2, ∀ j, j < pl → ent r j = 0
  to : ∀ r, r ∈ s.1 ∨ r ∈ s.2 → Spn p n rows (ent r)
  of : ∀ r ∈ rows, Spn p n (s.1 ++ s.2) (ent r)
theorem pick_none {pl : Nat} {left : List Row} (h : pick pl left = none) : ∀ r ∈ left, ent r pl = 0 := by
  intro r hr
  have := List.findIdx?_eq_none_iff.mp h r hr
  simpa using this
theorem pick_some {pl at_ : Nat} {left : List Row} (h : pick pl left = some at_) : ∃ hl : at_ < left.length, ent left[at_] pl ≠ 0 ∧ ∀ j (hj : j < at_), ent (left[j]'(by omega)) pl = 0 := by
  obtain ⟨h1, h2, h3⟩ := List.findIdx?_eq_some_iff_getElem.mp h
  refine ⟨h1, by simpa using h2, fun j hj => ?_⟩
  have := h3 j hj
  simpa using this
theorem run_step (hp : 2 ≤ p) (hv : InvOk p inv) {rows : List Row} {pl : Nat} {s : List Row × List Row} {ls : List Nat} (hpl : pl < n) (R : Run p n rows pl s ls) : ∃ ms, Run p n rows (pl + 1) (stepM p inv pl s) ms := by
  unfold stepM
  cases e : pick pl s.2 with
  | none =>
    refine ⟨ls, R.low, fun l hl => Nat.lt_succ_of_lt (R.lt l hl), R.wf, fun r hr j hj => ?_, R.to, R.of⟩
    by_cases ej : j = pl
    · rw [ej]
      exact pick_none e r hr
    · exact R.zb r hr j (by omega)
  | some at_ =>
    obtain ⟨hl, hne, _⟩ := pick_some e
    obtain ⟨form, left⟩ := s
    simp only at *
    have hr0 : left[at_] ∈ left := List.getElem_mem hl
    have e0 : left.getD at_ [] = left[at_] := getD_el _ _ hl
    rw [e0]
    have w0 := R.wf _ hr0
    generalize hr : left[at_] = r at *
    have r0 := w0.ent hpl
    have hi := hv (ent r pl) (by omega) r0.2
    generalize hc : inv (ent r pl) = c at *
    have pp : (0 : Int) < p := by omega
    have wrow : Wf p n (mulR p c r) := mulR_wf pp w0
    generalize hrow : mulR p c r = row at *
    have row1 : ent row pl = 1 := by
      rw [← hrow, mulR_ent w0 hpl]
      exact hi
    have rowz : ∀ j, j < pl → ent row j = 0 := fun j hj => by
      rw [← hrow, mulR_ent w0 (by omega), R.zb r hr0 j hj, Int.mul_zero, Int.zero_emod]
    have rowe : ∀ j, j < n → cg p (ent row j) (c * ent r j) := fun j hj => by
      rw [← hrow, mulR_ent w0 hj]
      exact cg.emod _ _
    have back : ∀ j, j < n → cg p (ent r j) (ent r pl * ent row j) := fun j hj => by
      have a : cg p (ent r pl * ent row j) (ent r pl * (c * ent r j)) := (cg.refl p _).mul (rowe j hj)
      have b : cg p (c * ent r pl * ent r j) (1 * ent r j) := ((cg.emod p _).symm.trans (cg.of_eq hi)).mul (cg.refl p _)
      exact ((a.trans (cg.of_eq (by grind))).trans (b.trans (cg.of_eq (by grind)))).symm
    have er : ∀ s, Wf p n s → ∀ j, j < n → cg p (ent (lessR p s (ent s pl) row) j) (ent s j - ent s pl * ent row j) := fun s hs j hj => by
      rw [lessR_ent hs wrow hj]
      exact cg.emod _ _
    have memE : ∀ s, s ∈ left.eraseIdx at_ → s ∈ left := fun s hs => List.mem_of_mem_eraseIdx hs
    have entz : ∀ s, Wf p n s → ∀ j, j < n → ent s pl * ent row j = 0 → ent (lessR p s (ent s pl) row) j = ent s j := fun s hs j hj h => by
      rw [lessR_ent hs wrow hj, h, Int.sub_zero]
      exact Int.emod_eq_of_lt (hs.ent hj).1 (hs.ent hj).2
    have entpl : ∀ s, Wf p n s → ent (lessR p s (ent s pl) row) pl = 0 := fun s hs => by
      rw [lessR_ent hs wrow hpl, row1, Int.mul_one, Int.sub_self, Int.zero_emod]
    have lenf : (clearM p pl row form).length = form.length := by unfold clearM; rw [List.length_map]
    have getf : ∀ (i : Nat) q, (clearM p pl row form ++ [row])[i]? = some q → (∃ s, form[i]? = some s ∧ q = lessR p s (ent s pl) row) ∨ (i = form.length ∧ q = row) := fun i q hq => by
      by_cases hi : i < form.length
      · rw [List.getElem?_append_left (by rw [lenf]; exact hi)] at hq
        unfold clearM at hq
        rw [List.getElem?_map, List.getElem?_eq_getElem hi] at hq
        exact .inl ⟨form[i], List.getElem?_eq_getElem hi, (Option.some.inj hq).symm⟩
      · have hi2 : i < form.length + 1 := by
          have := (List.getElem?_eq_some_iff.mp hq).1
          rw [List.length_append, lenf] at this
          exact this
        have e : i = form.length := by omega
        rw [List.getElem?_append_right (by rw [lenf]; omega), lenf, e, Nat.sub_self] at hq
        exact .inr ⟨e, (Option.some.inj hq).symm⟩
    have getl : ∀ (i : Nat) l, (ls ++ [pl])[i]? = some l → ls[i]? = some l ∨ (i = form.length ∧ l = pl) := fun i l hq => by
      have len := R.low.dl.1
      simp only at len
      by_cases hi : i < form.length
      · rw [List.getElem?_append_left (by rw [len]; exact hi)] at hq
        exact .inl hq
      · have hi2 : i < form.length + 1 := by
          have := (List.getElem?_eq_some_iff.mp hq).1
          rw [List.length_append, len] at this
          exact this
        have e : i = form.length := by omega
        rw [List.getElem?_append_right (by rw [len]; omega), len, e, Nat.sub_self] at hq
        exact .inr ⟨e, (Option.some.inj hq).symm⟩
    have wff : ∀ s ∈ form, Wf p n s := R.low.wf
    have meml : ∀ {i : Nat} {l}, ls[i]? = some l → i < form.length ∧ l < pl := fun {i l} h => by
      have z := (List.getElem?_eq_some_iff.mp h).1
      have len := R.low.dl.1
      simp only at len
      exact ⟨by omega, R.lt l (List.mem_of_getElem? h)⟩
    refine ⟨ls ++ [pl], ⟨fun q hq => ?_, ⟨?_, fun i k q l hi hk => ?_⟩, fun l hl => ?_, ?_, fun i q l hi hk m hm => ?_⟩, fun l hl => ?_, fun q hq => ?_, fun q hq j hj => ?_, fun q hq => ?_, fun q hq => ?_⟩
    · rcases List.mem_append.mp hq with h | h
      · obtain ⟨s, hs, rfl⟩ := List.mem_map.mp h
        exact lessR_wf pp (wff s hs) wrow
      · rw [List.mem_singleton.mp h]
        exact wrow
    · rw [List.length_append, List.length_append, lenf]
      have len := R.low.dl.1
      simp only at len
      rw [len]
      rfl
    · rcases getf i q hi with ⟨s, hs, rfl⟩ | ⟨ei, rfl⟩
      · have ws := wff s (List.mem_of_getElem? hs)
        have il : i < form.length := (List.getElem?_eq_some_iff.mp hs).1
        rcases getl k l hk with hk | ⟨ek, rfl⟩
        · rw [entz s ws l (by have := meml hk; omega) (by rw [rowz l (meml hk).2, Int.mul_zero])]
          exact R.low.dl.2 i k s l hs hk
        · rw [entpl s ws, if_neg (by omega)]
      · rcases getl k l hk with hk | ⟨ek, rfl⟩
        · rw [rowz l (meml hk).2, if_neg (by have := meml hk; omega)]
        · rw [row1, if_pos (by omega)]
    · rcases List.mem_append.mp hl with h | h
      · exact R.low.lt l h
      · rw [List.mem_singleton.mp h]
        exact hpl
    · exact List.pairwise_append.mpr ⟨R.low.up, List.pairwise_singleton _ _, fun a ha b hb => by rw [List.mem_singleton.mp hb]; exact R.lt a ha⟩
    · rcases getf i q hi with ⟨s, hs, rfl⟩ | ⟨ei, rfl⟩
      · have ws := wff s (List.mem_of_getElem? hs)
        have il : i < form.length := (List.getElem?_eq_some_iff.mp hs).1
        rcases getl i l hk with hk | ⟨ek, rfl⟩
        · have lp := (meml hk).2
          rw [entz s ws m (by omega) (by rw [rowz m (by omega), Int.mul_zero])]
          exact R.low.zb i s l hs hk m hm
        · omega
      · rcases getl i l hk with hk | ⟨ek, rfl⟩
        · have := (meml hk).1
          omega
        · exact rowz m hm
    · rcases List.mem_append.mp hl with h | h
      · exact Nat.lt_succ_of_lt (R.lt l h)
      · rw [List.mem_singleton.mp h]
        exact Nat.lt_succ_self _
    · obtain ⟨s, hs, rfl⟩ := List.mem_map.mp hq
      exact lessR_wf pp (R.wf s (memE s hs)) wrow
    · obtain ⟨s, hs, rfl⟩ := List.mem_map.mp hq
      have ws := R.wf s (memE s hs)
      by_cases ej : j = pl
      · rw [ej]
        exact entpl s ws
      · rw [entz s ws j (by omega) (by rw [rowz j (by omega), Int.mul_zero])]
        exact R.zb s (memE s hs) j (by omega)
    · have srow : Spn p n rows (ent row) := by
        have z : Spn p n rows (fun j => (fun _ => (0 : Int)) j + c * ent r j) := (Spn.zero fun _ _ => cg.refl _ _).lin c (R.to r (.inr hr0))
        exact z.cong fun j hj => (rowe j hj).trans (cg.of_eq (by grind))
      have sl : ∀ s, Wf p n s → Spn p n rows (ent s) → Spn p n rows (ent (lessR p s (ent s pl) row)) := fun s ws hs =>
        (hs.lin (-(ent s pl)) srow).cong fun j hj => (er s ws j hj).trans (cg.of_eq (by grind))
      rcases hq with h | h
      · rcases List.mem_append.mp h with h | h
        · obtain ⟨s, hs, rfl⟩ := List.mem_map.mp h
          exact sl s (wff s hs) (R.to s (.inl hs))
        · rw [List.mem_singleton.mp h]
          exact srow
      · obtain ⟨s, hs, rfl⟩ := List.mem_map.mp h
        exact sl s (R.wf s (memE s hs)) (R.to s (.inr (memE s hs)))
    · refine Spn.mono (fun s hs => ?_) (R.of q hq)
      have mrow : Spn p n (clearM p pl row form ++ [row] ++ clearM p pl row (left.eraseIdx at_)) (ent row) := Spn.mem (by simp)
      have sl : ∀ s, Wf p n s → lessR p s (ent s pl) row ∈ clearM p pl row form ++ [row] ++ clearM p pl row (left.eraseIdx at_) → Spn p n (clearM p pl row form ++ [row] ++ clearM p pl row (left.eraseIdx at_)) (ent s) := fun s ws hs =>
        ((Spn.mem hs).lin (ent s pl) mrow).cong fun j hj => by
          have := (er s ws j hj).symm.add (cg.refl p (ent s pl * ent row j))
          exact (cg.of_eq (by grind)).trans this
      rcases List.mem_append.mp hs with h | h
      · exact sl s (wff s h) (List.mem_append_left _ (List.mem_append_left _ (List.mem_map.mpr ⟨s, h, rfl⟩)))
      · obtain ⟨k, hk, rfl⟩ := List.getElem_of_mem h
        by_cases ek : k = at_
        · subst ek
          rw [hr]
          have z : Spn p n (clearM p pl row form ++ [row] ++ clearM p pl row (left.eraseIdx k)) (fun j => (fun _ => (0 : Int)) j + ent r pl * ent row j) := (Spn.zero fun _ _ => cg.refl _ _).lin _ mrow
          exact z.cong fun j hj => (back j hj).trans (cg.of_eq (by grind))
        · have hm : left[k] ∈ left.eraseIdx at_ := List.mem_eraseIdx_iff_getElem.mpr ⟨k, hk, ek, rfl⟩
          exact sl _ (R.wf _ h) (List.mem_append_right _ (List.mem_map.mpr ⟨_, hm, rfl⟩))
theorem run_all (hp : 2 ≤ p) (hv : InvOk p inv) {rows : List Row} (w : ∀ r ∈ rows, Wf p n r) : ∀ k, k ≤ n → ∃ ls, Run p n rows k (runM p inv rows k) ls
  | 0, _ => ⟨[], ⟨fun r hr => by simp [runM] at hr, ⟨rfl, fun i k r l hi _ => by simp [runM] at hi⟩, fun l hl => by simp at hl, List.Pairwise.nil, fun i r l hi _ => by simp [runM] at hi⟩, fun l hl => by simp at hl, w, fun r _ j hj => absurd hj (Nat.not_lt_zero _),
      fun r hr => .mem (by simpa [runM] using hr), fun r hr => .mem (by simpa [runM] using hr)⟩
  | k + 1, h => by
    obtain ⟨ls, R⟩ := run_all hp hv w k (by omega)
    exact run_step hp hv (by omega) R
theorem runM_nil : ∀ k, runM p inv [] k = ([], [])
  | 0 => rfl
  | k + 1 => by
    show stepM p inv k (runM p inv [] k) = _
    rw [runM_nil k]
    rfl
theorem lowM_len (rows : List Row) (w : ∀ r ∈ rows, Wf p n r) : lowM p inv rows = (runM p inv rows n).1 := by
  cases rows with
  | nil => unfold lowM; rw [runM_nil, runM_nil]
  | cons r R =>
    unfold lowM
    rw [show lenM (r :: R) = n from (w r List.mem_cons_self).len]
theorem lowM_ok (hp : 2 ≤ p) (hv : InvOk p inv) {rows : List Row} (w : ∀ r ∈ rows, Wf p n r) : ∃ ls, Low p n (lowM p inv rows) ls ∧ (∀ r ∈ lowM p inv rows, Spn p n rows (ent r)) ∧ ∀ r ∈ rows, Spn p n (lowM p inv rows) (ent r) := by
  obtain ⟨ls, R⟩ := run_all hp hv w n (Nat.le_refl _)
  rw [lowM_len rows w]
  refine ⟨ls, R.low, fun r hr => R.to r (.inl hr), fun r hr => ?_⟩
  refine (R.of r hr).mono fun s hs => ?_
  rcases List.mem_append.mp hs with h | h
  · exact .mem h
  · exact .zero fun j hj => cg.of_eq (R.zb s h j hj)
theorem lowM_same (hp : 2 ≤ p) (hv : InvOk p inv) {rows R2 : List Row} (w : ∀ r ∈ rows, Wf p n r) (w2 : ∀ r ∈ R2, Wf p n r) (a : ∀ r ∈ rows, Spn p n R2 (ent r)) (b : ∀ r ∈ R2, Spn p n rows (ent r)) : lowM p inv rows = lowM p inv R2 := by
  obtain ⟨l1, h1, t1, o1⟩ := lowM_ok hp hv w
  obtain ⟨l2, h2, t2, o2⟩ := lowM_ok hp hv w2
  exact low_unique hp h1 h2 (fun r hr => ((t1 r hr).mono a).mono o2) fun r hr => ((t2 r hr).mono b).mono o1
theorem lowM_low (hp : 2 ≤ p) (hv : InvOk p inv) {F : List Row} {ls : List Nat} (h : Low p n F ls) : lowM p inv F = F := by
  obtain ⟨l1, h1, t1, o1⟩ := lowM_ok hp hv h.wf
  exact low_unique hp h1 h t1 o1
theorem lowM_wf (hp : 2 ≤ p) (hv : InvOk p inv) {rows : List Row} (w : ∀ r ∈ rows, Wf p n r) : ∀ r ∈ lowM p inv rows, Wf p n r := by
  obtain ⟨l1, h1, _⟩ := lowM_ok hp hv w
  exact h1.wf
theorem lowM_again (hp : 2 ≤ p) (hv : InvOk p inv) {rows : List Row} (w : ∀ r ∈ rows, Wf p n r) : lowM p inv (lowM p inv rows) = lowM p inv rows := by
  obtain ⟨l1, h1, _⟩ := lowM_ok hp hv w
  exact lowM_low hp hv h1
theorem lowM_rev (hp : 2 ≤ p) (hv : InvOk p inv) {rows : List Row} (w : ∀ r ∈ rows, Wf p n r) : lowM p inv rows.reverse = lowM p inv rows :=
  lowM_same hp hv (fun r hr => w r (List.mem_reverse.mp hr)) w (fun r hr => .mem (List.mem_reverse.mp hr)) fun r hr => .mem (List.mem_reverse.mpr hr)
end
/-! ### the primes -/
def P5 (p : Int) : Prop := p = 2 ∨ p = 3 ∨ p = 5 ∨ p = 7 ∨ p = 11
theorem P5.two {p : Int} (h : P5 p) : 2 ≤ p := by
  rcases h with h | h | h | h | h <;> omega
theorem P5.le {p : Int} (h : P5 p) : p ≤ 11 := by
  rcases h with h | h | h | h | h <;> omega
def invM (p r : Int) : Int := ((List.range 11).map fun (k : Nat) => Int.ofNat k).find? (fun b => b * r % p == 1) |>.getD 0
theorem inv_all : ∀ p ∈ [2, 3, 5, 7, 11], ∀ r ∈ List.range 11, 0 < r → r < p → 0 < invM (p : Nat) (r : Nat) ∧ invM (p : Nat) (r : Nat) < (p : Nat) ∧ ∀ b ∈ List.range 11, b < p → ((b : Int) * (r : Nat) % (p : Nat) = 1 ↔ (b : Int) = invM (p : Nat) (r : Nat)) := by decide +kernel
theorem inv_ok {p r : Int} (hp : P5 p) (h0 : 0 < r) (h1 : r < p) : 0 < invM p r ∧ invM p r < p ∧ ∀ b, 0 ≤ b → b < p → (b * r % p = 1 ↔ b = invM p r) := by
  have two := hp.two
  have le := hp.le
  obtain ⟨P, rfl⟩ := Int.eq_ofNat_of_zero_le (a := p) (by omega)
  obtain ⟨R, rfl⟩ := Int.eq_ofNat_of_zero_le (a := r) (by omega)
  have hP : P ∈ [2, 3, 5, 7, 11] := by
    rcases hp with h | h | h | h | h <;> (have : P = _ := Int.ofNat.inj h; subst this; decide)
  obtain ⟨a, b, c⟩ := inv_all P hP R (List.mem_range.mpr (by omega)) (by omega) (by omega)
  refine ⟨a, b, fun x hx hx' => ?_⟩
  obtain ⟨B, rfl⟩ := Int.eq_ofNat_of_zero_le hx
  exact c B (List.mem_range.mpr (by omega)) (by omega)
theorem inv_is {p : Int} (hp : P5 p) : InvOk p (invM p) := fun x h0 h1 => by
  obtain ⟨a, b, c⟩ := inv_ok hp h0 h1
  exact (c _ (by omega) b).mpr rfl
end My

/-! Mixtures, what is left of a row. -/
namespace My
def dot : List Int → List Row → Nat → Int
  | c :: cs, r :: rows, j => c * ent r j + dot cs rows j
  | _, _, _ => 0
theorem dot_nil (cs : List Int) (j : Nat) : dot cs [] j = 0 := by cases cs <;> rfl
def mixM (p : Int) (cs : List Int) (rows : List Row) (n : Nat) : Row := (List.range n).map fun j => dot cs rows j % p
section
variable {p : Int} {n : Nat}
theorem mixM_len {cs : List Int} {rows : List Row} : (mixM p cs rows n).length = n := by
  unfold mixM
  rw [List.length_map, List.length_range]
theorem mixM_get {cs : List Int} {rows : List Row} {j : Nat} (h : j < n) : (mixM p cs rows n)[j]? = some (dot cs rows j % p) := by
  unfold mixM
  rw [List.getElem?_map, List.getElem?_range h]
  rfl
theorem mixM_ent {cs : List Int} {rows : List Row} {j : Nat} (h : j < n) : ent (mixM p cs rows n) j = dot cs rows j % p := by
  have a := ent_some (r := mixM p cs rows n) (j := j) (by rw [mixM_len]; exact h)
  rw [mixM_get h] at a
  exact (Option.some.inj a).symm
theorem mixM_wf (hp : 0 < p) {cs : List Int} {rows : List Row} : Wf p n (mixM p cs rows n) := by
  refine ⟨mixM_len, fun x hx => ?_⟩
  obtain ⟨j, _, rfl⟩ := List.mem_map.mp hx
  exact ⟨Int.emod_nonneg _ (by omega), Int.emod_lt_of_pos _ hp⟩
theorem zip_sum {j : Nat} : ∀ (cs : List Int) (rows : List Row), (List.zipWith (fun c r => c * ent r j) cs rows).sum = dot cs rows j
  | [], _ => rfl
  | _ :: _, [] => rfl
  | c :: cs, r :: rows => by
    show (c * ent r j :: List.zipWith (fun c r => c * ent r j) cs rows).sum = _
    rw [List.sum_cons, zip_sum cs rows]
    rfl
theorem dl_tail {r : Row} {F : List Row} {l : Nat} {ls : List Nat} (h : Dl p (r :: F) (l :: ls)) : ∀ m ∈ ls, ent r m = 0 := fun m hm => by
  obtain ⟨k, hk⟩ := List.getElem?_of_mem hm
  have := h.2 0 (k + 1) r m rfl hk
  rw [if_neg (by omega)] at this
  exact this
theorem red_dot : ∀ {F : List Row} {ls : List Nat} (v : Nat → Int) (j : Nat), Dl p F ls → red F ls v j = v j - dot (ls.map v) F j
  | [], ls, v, j, h => by
    rw [red_nil, dot_nil]
    omega
  | r :: F, [], v, j, h => by simp [Dl] at h
  | r :: F, l :: ls, v, j, h => by
    have ih := red_dot (F := F) (ls := ls) (fun j => v j - v l * ent r j) j h.tail
    have e : ls.map (fun j => v j - v l * ent r j) = ls.map v := by
      refine List.map_congr_left fun m hm => ?_
      rw [dl_tail h m hm]
      omega
    rw [e] at ih
    show red F ls (fun j => v j - v l * ent r j) j = v j - (v l * ent r j + dot (ls.map v) F j)
    rw [ih]
    omega
theorem red_cong {F : List Row} {ls : List Nat} {u v : Nat → Int} (hl : ∀ l ∈ ls, l < n) (h : ∀ j, j < n → cg p (u j) (v j)) : ∀ j, j < n → cg p (red F ls u j) (red F ls v j) := fun j hj => by
  have z : Z p n (red F ls (fun j => u j + (-1) * v j)) := red_zero hl fun j hj => by
    have := (h j hj).add (cg.refl p ((-1) * v j))
    exact this.trans (cg.of_eq (by grind))
  have a := z j hj
  rw [red_lin (-1) F ls u v j] at a
  have := a.add (cg.refl p (red F ls v j))
  exact (cg.of_eq (by grind)).trans (this.trans (cg.of_eq (by grind)))
def redR (p : Int) : List Row → List Nat → Row → Row
  | r :: F, l :: ls, m => redR p F ls (lessR p m (ent m l) r)
  | _, _, m => m
theorem redR_nil (ls : List Nat) (m : Row) : redR p [] ls m = m := by cases ls <;> rfl
theorem redR_wf (hp : 0 < p) : ∀ {F : List Row} {ls : List Nat} {m : Row}, (∀ r ∈ F, Wf p n r) → Wf p n m → Wf p n (redR p F ls m)
  | [], ls, m, _, h => by rw [redR_nil]; exact h
  | r :: F, [], m, _, h => h
  | r :: F, l :: ls, m, hF, h => redR_wf hp (F := F) (ls := ls) (fun s hs => hF s (List.mem_cons_of_mem _ hs)) (lessR_wf hp h (hF r List.mem_cons_self))
theorem redR_ent (hp : 0 < p) : ∀ {F : List Row} {ls : List Nat} {m : Row}, (∀ r ∈ F, Wf p n r) → (∀ l ∈ ls, l < n) → Wf p n m → ∀ j, j < n → cg p (ent (redR p F ls m) j) (red F ls (ent m) j)
  | [], ls, m, _, _, h, j, hj => by rw [redR_nil, red_nil]; exact cg.refl _ _
  | r :: F, [], m, _, _, h, j, hj => cg.refl _ _
  | r :: F, l :: ls, m, hF, hl, h, j, hj => by
    have hl' : ∀ k ∈ ls, k < n := fun k hk => hl k (List.mem_cons_of_mem _ hk)
    have ih := redR_ent hp (F := F) (ls := ls) (fun s hs => hF s (List.mem_cons_of_mem _ hs)) hl' (lessR_wf (c := ent m l) hp h (hF r List.mem_cons_self)) j hj
    refine ih.trans (red_cong hl' (fun i hi => ?_) j hj)
    rw [lessR_ent h (hF r List.mem_cons_self) hi]
    exact cg.emod _ _
def shr (ls : List Nat) (m : Row) : List Int := ls.map (ent m)
theorem mix_zero (hp : 2 ≤ p) {F : List Row} {ls : List Nat} (L : Low p n F ls) {m : Row} (w : Wf p n m) : mixM p (shr ls m) F n = m ↔ Z p n (red F ls (ent m)) := by
  constructor
  · intro h j hj
    rw [red_dot (ent m) j L.dl]
    have e := mixM_ent (p := p) (cs := shr ls m) (rows := F) hj
    rw [h] at e
    have c : cg p (ent m j) (dot (ls.map (ent m)) F j) := (cg.of_eq e).trans (cg.emod _ _)
    exact (c.sub (cg.refl p (dot (ls.map (ent m)) F j))).trans (cg.of_eq (by omega))
  · intro h
    refine row_ext (mixM_wf (by omega)) w fun j hj => ?_
    rw [mixM_ent hj]
    have a := h j hj
    rw [red_dot (ent m) j L.dl] at a
    have := a.add (cg.refl p (dot (ls.map (ent m)) F j))
    exact (cg.emod _ _).trans (((cg.of_eq (by unfold shr; omega)).trans this.symm).trans (cg.of_eq (by omega)))
theorem any_zero (hp : 0 < p) {m : Row} (w : Wf p n m) : m.any (fun x => x != 0) = false ↔ Z p n (ent m) := by
  constructor
  · intro h j hj
    have := List.any_eq_false.mp h _ (ent_mem (r := m) (j := j) (by rw [w.len]; exact hj))
    exact cg.of_eq (by simpa using this)
  · intro h
    refine List.any_eq_false.mpr fun x hx => ?_
    obtain ⟨j, hj, rfl⟩ := List.getElem_of_mem hx
    have e : m[j] = ent m j := by
      unfold ent
      rw [getD_el m 0 hj]
    have r := w.rng _ hx
    have := (h j (by rw [w.len] at hj; exact hj)).eq (by rw [← e]; exact r.1) (by rw [← e]; exact r.2) (Int.le_refl _) (by omega)
    rw [e, this]
    decide
theorem left_iff (hp : 2 ≤ p) {F : List Row} {ls : List Nat} (L : Low p n F ls) {m : Row} (w : Wf p n m) : (redR p F ls m).any (fun x => x != 0) = !decide (mixM p (shr ls m) F n = m) := by
  have pp : 0 < p := by omega
  have wr := redR_wf pp L.wf w (ls := ls)
  have key : (redR p F ls m).any (fun x => x != 0) = false ↔ mixM p (shr ls m) F n = m := by
    rw [mix_zero hp L w, any_zero pp wr]
    have e := redR_ent pp L.wf L.lt w
    exact ⟨fun h j hj => (e j hj).symm.trans (h j hj), fun h j hj => (e j hj).trans (h j hj)⟩
  by_cases h : mixM p (shr ls m) F n = m
  · rw [key.mpr h, decide_eq_true h]
    rfl
  · rw [decide_eq_false h]
    cases e : (redR p F ls m).any (fun x => x != 0) with
    | true => rfl
    | false => exact absurd (key.mp e) h
def mixR (p c : Int) (one other : Row) : Row := List.zipWith (fun a b => (a + c * b) % p) one other
theorem mixR_len {c : Int} {row b : Row} (h : Wf p n row) (h2 : Wf p n b) : (mixR p c row b).length = n := by
  unfold mixR
  rw [List.length_zipWith, h.len, h2.len, Nat.min_self]
theorem mixR_ent {row b : Row} {c : Int} (h : Wf p n row) (h2 : Wf p n b) {j : Nat} (hj : j < n) : ent (mixR p c row b) j = (ent row j + c * ent b j) % p := by
  have a := ent_some (r := mixR p c row b) (j := j) (by rw [mixR_len h h2]; exact hj)
  unfold mixR at a
  rw [List.getElem?_zipWith, ent_some (by rw [h.len]; exact hj), ent_some (by rw [h2.len]; exact hj)] at a
  exact (Option.some.inj a).symm
theorem mixR_wf0 (hp : 0 < p) {row b : Row} {c : Int} (h : Wf p n row) (h2 : Wf p n b) : Wf p n (mixR p c row b) := by
  refine ⟨mixR_len h h2, fun x hx => ?_⟩
  obtain ⟨j, hj, rfl⟩ := List.getElem_of_mem hx
  have hj' : j < n := by rw [mixR_len h h2] at hj; exact hj
  have e := mixR_ent (c := c) h h2 hj'
  unfold ent at e
  rw [getD_el _ _ hj] at e
  rw [e]
  exact ⟨Int.emod_nonneg _ (by omega), Int.emod_lt_of_pos _ hp⟩
def accM (p : Int) : Row → List Int → List Row → Row
  | acc, c :: cs, r :: rows => accM p (mixR p c acc r) cs rows
  | acc, _, _ => acc
theorem accM_nil (acc : Row) (cs : List Int) : accM p acc cs [] = acc := by cases cs <;> rfl
theorem accM_ok (hp : 0 < p) : ∀ {rows : List Row} {cs : List Int} {acc : Row}, (∀ r ∈ rows, Wf p n r) → Wf p n acc → Wf p n (accM p acc cs rows) ∧ ∀ j, j < n → cg p (ent (accM p acc cs rows) j) (ent acc j + dot cs rows j)
  | [], cs, acc, _, h => by
    rw [accM_nil]
    exact ⟨h, fun j _ => cg.of_eq (by rw [dot_nil]; omega)⟩
  | r :: rows, [], acc, _, h => ⟨h, fun j _ => cg.of_eq (by show _ = _ + (0 : Int); rw [Int.add_zero]; rfl)⟩
  | r :: rows, c :: cs, acc, hr, h => by
    have ih := accM_ok hp (rows := rows) (cs := cs) (fun s hs => hr s (List.mem_cons_of_mem _ hs)) (mixR_wf0 (c := c) hp h (hr r List.mem_cons_self))
    refine ⟨ih.1, fun j hj => (ih.2 j hj).trans ?_⟩
    rw [mixR_ent h (hr r List.mem_cons_self) hj]
    have := (cg.emod p (ent acc j + c * ent r j)).add (cg.refl p (dot cs rows j))
    exact this.trans (cg.of_eq (by show _ = _ + (c * ent r j + dot cs rows j); omega))
def zeros (n : Nat) : Row := List.replicate n 0
theorem zeros_wf (hp : 0 < p) : Wf p n (zeros n) := ⟨List.length_replicate, fun x hx => by
  rw [List.eq_of_mem_replicate hx]
  omega⟩
theorem zeros_ent {j : Nat} : ent (zeros n) j = 0 := by
  unfold ent zeros
  rw [List.getD_eq_getElem?_getD, List.getElem?_replicate]
  split <;> rfl
theorem accM_is (hp : 0 < p) {rows : List Row} {cs : List Int} (hr : ∀ r ∈ rows, Wf p n r) : accM p (zeros n) cs rows = mixM p cs rows n := by
  obtain ⟨w, e⟩ := accM_ok (cs := cs) hp hr (zeros_wf (n := n) hp)
  refine row_ext w (mixM_wf hp) fun j hj => ?_
  rw [mixM_ent hj]
  refine (e j hj).trans ?_
  rw [zeros_ent, Int.zero_add]
  exact (cg.emod _ _).symm
end
end My

/-! What lies across a low list. -/
namespace My
/-- a sum over the first n -/
def dsum : Nat → (Nat → Int) → Int
  | 0, _ => 0
  | n + 1, f => dsum n f + f n
theorem dsum_congr {f g : Nat → Int} : ∀ n, (∀ i, i < n → f i = g i) → dsum n f = dsum n g
  | 0, _ => rfl
  | n + 1, h => by
    show dsum n f + f n = dsum n g + g n
    rw [dsum_congr n fun i hi => h i (by omega), h n (by omega)]
theorem dsum_cg {p : Int} {f g : Nat → Int} : ∀ n, (∀ i, i < n → cg p (f i) (g i)) → cg p (dsum n f) (dsum n g)
  | 0, _ => cg.refl _ _
  | n + 1, h => (dsum_cg n fun i hi => h i (by omega)).add (h n (by omega))
theorem dsum_lin (c : Int) (f g : Nat → Int) : ∀ n, dsum n (fun i => f i + c * g i) = dsum n f + c * dsum n g
  | 0 => by show (0 : Int) = 0 + c * 0; omega
  | n + 1 => by
    show dsum n (fun i => f i + c * g i) + (f n + c * g n) = (dsum n f + f n) + c * (dsum n g + g n)
    rw [dsum_lin c f g n]
    grind
theorem dsum_zero : ∀ n, dsum n (fun _ => 0) = 0
  | 0 => rfl
  | n + 1 => by
    show dsum n (fun _ => 0) + 0 = 0
    rw [dsum_zero n]
    rfl
theorem dsum_one {j : Nat} (f : Nat → Int) : ∀ n, dsum n (fun i => if i = j then f i else 0) = if j < n then f j else 0
  | 0 => by rw [if_neg (by omega)]; rfl
  | n + 1 => by
    show dsum n (fun i => if i = j then f i else 0) + (if n = j then f n else 0) = _
    rw [dsum_one f n]
    by_cases h : n = j
    · rw [if_pos h, if_neg (by omega), if_pos (by omega), h]
      omega
    · rw [if_neg h]
      by_cases h2 : j < n
      · rw [if_pos h2, if_pos (by omega)]
        omega
      · rw [if_neg h2, if_neg (by omega)]
        rfl
theorem dsum_shift (f : Nat → Int) : ∀ n, dsum (n + 1) f = f 0 + dsum n (fun i => f (i + 1))
  | 0 => by show (0 : Int) + f 0 = f 0 + 0; omega
  | n + 1 => by
    show dsum (n + 1) f + f (n + 1) = f 0 + (dsum n (fun i => f (i + 1)) + f (n + 1))
    rw [dsum_shift f n]
    omega
theorem zip_dsum : ∀ {n : Nat} {u v : Row}, u.length = n → v.length = n → (List.zipWith (fun a b => a * b) u v).sum = dsum n (fun i => ent u i * ent v i)
  | 0, [], [], _, _ => rfl
  | n + 1, a :: u, b :: v, h1, h2 => by
    rw [dsum_shift]
    show (a * b :: List.zipWith (fun a b => a * b) u v).sum = a * b + dsum n (fun i => ent u i * ent v i)
    rw [List.sum_cons, zip_dsum (n := n) (by simpa using h1) (by simpa using h2)]
/-- u lies across v -/
def Orth (p : Int) (n : Nat) (u v : Nat → Int) : Prop := cg p (dsum n (fun i => u i * v i)) 0
section
variable {p : Int} {n : Nat}
theorem Orth.comm {u v : Nat → Int} (h : Orth p n u v) : Orth p n v u := (cg.of_eq (dsum_congr n fun i _ => Int.mul_comm _ _)).trans h
theorem Orth.spn {R : List Row} {v u : Nat → Int} (h : ∀ r ∈ R, Orth p n (ent r) v) (hu : Spn p n R u) : Orth p n u v := by
  induction hu with
  | zero hz =>
    refine (dsum_cg (g := fun _ => 0) n fun i hi => ?_).trans (cg.of_eq (dsum_zero n))
    exact ((hz i hi).mul (cg.refl p (v i))).trans (cg.of_eq (by omega))
  | @add u w r c hr hu e ih =>
    have e2 : cg p (dsum n (fun i => w i * v i)) (dsum n (fun i => u i * v i + c * (ent r i * v i))) := dsum_cg n fun i hi => ((e i hi).mul (cg.refl p (v i))).trans (cg.of_eq (by grind))
    refine e2.trans ?_
    rw [dsum_lin]
    have := ih.add ((cg.refl p c).mul (h r hr))
    exact this.trans (cg.of_eq (by omega))
/-- the places that are no lead, in order -/
def outs (n : Nat) (ls : List Nat) : List Nat := (List.range n).filter fun j => !ls.contains j
theorem outs_mem {ls : List Nat} {j : Nat} : j ∈ outs n ls ↔ j < n ∧ j ∉ ls := by
  unfold outs
  rw [List.mem_filter, List.mem_range]
  simp
theorem outs_up {ls : List Nat} : (outs n ls).Pairwise (· < ·) := List.Pairwise.filter _ List.pairwise_lt_range
theorem filter_split {α : Type} (f : α → Bool) : ∀ l : List α, (l.filter f).length + (l.filter fun x => !f x).length = l.length
  | [] => rfl
  | a :: l => by
    have ih := filter_split f l
    rw [List.filter_cons, List.filter_cons, List.length_cons]
    cases f a
    · show (l.filter f).length + ((a :: l.filter fun x => !f x)).length = _
      rw [List.length_cons]
      omega
    · show (a :: l.filter f).length + (l.filter fun x => !f x).length = _
      rw [List.length_cons]
      omega
theorem outs_len {ls : List Nat} (up : ls.Pairwise (· < ·)) (lt : ∀ l ∈ ls, l < n) : (outs n ls).length = n - ls.length := by
  have e : (List.range n).filter (fun j => ls.contains j) = ls := sorted_eq (List.Pairwise.filter _ List.pairwise_lt_range) up fun x => by
    rw [List.mem_filter, List.mem_range]
    constructor
    · intro h
      simpa using h.2
    · intro h
      exact ⟨lt x h, by simpa using h⟩
  have l := filter_split (fun j => ls.contains j) (List.range n)
  rw [e, List.length_range] at l
  unfold outs
  omega
def setAll (p : Int) (j : Nat) : Row → List Nat → List Row → Row
  | row, l :: ls, r :: F => setAll p j (row.set l (-(ent r j) % p)) ls F
  | row, _, _ => row
theorem setAll_nil (j : Nat) (row : Row) (ls : List Nat) : setAll p j row ls [] = row := by cases ls <;> rfl
theorem ent_set {row : Row} {l i : Nat} {x : Int} (h : l < row.length) : ent (row.set l x) i = if i = l then x else ent row i := by
  unfold ent
  rw [List.getD_eq_getElem?_getD, List.getElem?_set]
  by_cases e : l = i
  · rw [if_pos e, if_pos h, if_pos e.symm]
    rfl
  · rw [if_neg e, if_neg (fun z => e z.symm), List.getD_eq_getElem?_getD]
theorem wf_set {row : Row} {l : Nat} {x : Int} (w : Wf p n row) (h0 : 0 ≤ x) (h1 : x < p) : Wf p n (row.set l x) := ⟨by rw [List.length_set, w.len], fun y hy => by
  rcases List.mem_or_eq_of_mem_set hy with h | h
  · exact w.rng y h
  · rw [h]
    exact ⟨h0, h1⟩⟩
theorem setAll_wf (hp : 0 < p) (j : Nat) : ∀ {F : List Row} {ls : List Nat} {row : Row}, Wf p n row → Wf p n (setAll p j row ls F)
  | [], ls, row, w => by rw [setAll_nil]; exact w
  | r :: F, [], row, w => w
  | r :: F, l :: ls, row, w => setAll_wf hp j (F := F) (ls := ls) (wf_set w (Int.emod_nonneg _ (by omega)) (Int.emod_lt_of_pos _ hp))
theorem setAll_off (j : Nat) : ∀ {F : List Row} {ls : List Nat} {row : Row} {i : Nat}, (∀ l ∈ ls, l < row.length) → i ∉ ls → ent (setAll p j row ls F) i = ent row i
  | [], ls, row, i, _, _ => by rw [setAll_nil]
  | r :: F, [], row, i, _, _ => rfl
  | r :: F, l :: ls, row, i, hl, hi => by
    show ent (setAll p j (row.set l (-(ent r j) % p)) ls F) i = ent row i
    rw [setAll_off j (F := F) (ls := ls) (fun m hm => by rw [List.length_set]; exact hl m (List.mem_cons_of_mem _ hm)) (fun h => hi (List.mem_cons_of_mem _ h)), ent_set (hl l List.mem_cons_self), if_neg (fun h : i = l => hi (h ▸ List.mem_cons_self))]
theorem setAll_on (j : Nat) : ∀ {F : List Row} {ls : List Nat} {row : Row} {k l : Nat} {r : Row}, (∀ l ∈ ls, l < row.length) → ls.Pairwise (· < ·) → ls[k]? = some l → F[k]? = some r → ent (setAll p j row ls F) l = -(ent r j) % p
  | [], _, _, _, _, _, _, _, _, h => by simp at h
  | s :: F, [], _, _, _, _, _, _, h, _ => by simp at h
  | s :: F, m :: ls, row, 0, l, r, hl, up, h1, h2 => by
    cases Option.some.inj h1
    cases Option.some.inj h2
    show ent (setAll p j (row.set m (-(ent s j) % p)) ls F) m = _
    rw [setAll_off j (F := F) (ls := ls) (fun x hx => by rw [List.length_set]; exact hl x (List.mem_cons_of_mem _ hx)) (fun h => Nat.lt_irrefl _ ((List.pairwise_cons.mp up).1 m h)), ent_set (hl m List.mem_cons_self), if_pos rfl]
  | s :: F, m :: ls, row, k + 1, l, r, hl, up, h1, h2 =>
    setAll_on j (F := F) (ls := ls) (k := k) (fun x hx => by rw [List.length_set]; exact hl x (List.mem_cons_of_mem _ hx)) (List.pairwise_cons.mp up).2 h1 h2
def nullV (p : Int) (n : Nat) (F : List Row) (ls : List Nat) (j : Nat) : Row := setAll p j ((zeros n).set j 1) ls F
def found (p : Int) (n : Nat) (F : List Row) (ls : List Nat) : List Row := (outs n ls).map (nullV p n F ls)
theorem zeros_len : (zeros n).length = n := List.length_replicate
theorem nullV_wf (hp : 2 ≤ p) {F : List Row} {ls : List Nat} {j : Nat} : Wf p n (nullV p n F ls j) := setAll_wf (by omega) j (wf_set (zeros_wf (by omega)) (by omega) (by omega))
theorem found_wf (hp : 2 ≤ p) {F : List Row} {ls : List Nat} : ∀ r ∈ found p n F ls, Wf p n r := fun r hr => by
  obtain ⟨j, _, rfl⟩ := List.mem_map.mp hr
  exact nullV_wf hp
theorem nullV_out {F : List Row} {ls : List Nat} {i j : Nat} (lt : ∀ l ∈ ls, l < n) (hj : j < n) (hi : i ∉ ls) : ent (nullV p n F ls j) i = if i = j then 1 else 0 := by
  unfold nullV
  rw [setAll_off j (fun l hl => by rw [List.length_set, zeros_len]; exact lt l hl) hi, ent_set (by rw [zeros_len]; exact hj), zeros_ent]
theorem nullV_on {F : List Row} {ls : List Nat} {j k l : Nat} {r : Row} (L : Low p n F ls) (hl : ls[k]? = some l) (hr : F[k]? = some r) : ent (nullV p n F ls j) l = -(ent r j) % p :=
  setAll_on j (fun l hl => by rw [List.length_set, zeros_len]; exact L.lt l hl) L.up hl hr
/-- a row that is given at the leads by a row of the form: the products with it -/
theorem supp_sum {F : List Row} {ls : List Nat} (L : Low p n F ls) {w : Nat → Int} {k : Nat} {r : Row} {l : Nat} (hr : F[k]? = some r) (hl : ls[k]? = some l) {j : Nat} (hjn : j < n) (hjl : j ∉ ls) (h0 : ∀ i, i < n → i ∉ ls → i ≠ j → w i = 0) :
    dsum n (fun i => w i * ent r i) = w j * ent r j + w l := by
  have ne : l ≠ j := fun e => hjl (e ▸ List.mem_of_getElem? hl)
  have ln : l < n := L.lt l (List.mem_of_getElem? hl)
  have rl : ent r l = 1 := by rw [L.dl.2 k k r l hr hl, if_pos rfl]
  have e : dsum n (fun i => w i * ent r i) = dsum n (fun i => (if i = j then w i * ent r i else 0) + 1 * (if i = l then w i * ent r i else 0)) := dsum_congr n fun i hi => by
    by_cases h1 : i = j
    · rw [if_pos h1, if_neg (fun z : i = l => ne (z.symm.trans h1))]
      omega
    · rw [if_neg h1]
      by_cases h2 : i = l
      · rw [if_pos h2]
        omega
      · rw [if_neg h2]
        by_cases h3 : i ∈ ls
        · obtain ⟨k2, hk2⟩ := List.getElem?_of_mem h3
          have nk : k ≠ k2 := fun e => by
            rw [← e, hl] at hk2
            exact h2 (Option.some.inj hk2).symm
          rw [L.dl.2 k k2 r i hr hk2, if_neg nk]
          omega
        · rw [h0 i hi h3 h1]
          omega
  rw [e, dsum_lin, dsum_one (fun i => w i * ent r i), dsum_one (fun i => w i * ent r i), if_pos hjn, if_pos ln, rl]
  omega
theorem null_orth {F : List Row} {ls : List Nat} (L : Low p n F ls) {j : Nat} (hj : j < n) (hjl : j ∉ ls) : ∀ r ∈ F, Orth p n (ent (nullV p n F ls j)) (ent r) := fun r hr => by
  obtain ⟨k, hk⟩ := List.getElem?_of_mem hr
  obtain ⟨l, hl⟩ : ∃ l, ls[k]? = some l := ⟨ls[k]'(by have := (List.getElem?_eq_some_iff.mp hk).1; have := L.dl.1; omega), List.getElem?_eq_getElem _⟩
  unfold Orth
  rw [supp_sum L hk hl hj hjl fun i hi hn hne => by rw [nullV_out L.lt hj hn, if_neg hne], nullV_out L.lt hj hjl, if_pos rfl, nullV_on L hl hk]
  have := (cg.refl p (1 * ent r j)).add (cg.emod p (-(ent r j)))
  exact this.trans (cg.of_eq (by omega))
theorem found_orth {F : List Row} {ls : List Nat} (L : Low p n F ls) : ∀ u ∈ found p n F ls, ∀ r ∈ F, Orth p n (ent u) (ent r) := fun u hu r hr => by
  obtain ⟨j, hj, rfl⟩ := List.mem_map.mp hu
  have := outs_mem.mp hj
  exact null_orth L this.1 this.2 r hr
/-- what lies across all rows of the form is a mixture of those found -/
theorem found_all (hp : 2 ≤ p) {F : List Row} {ls : List Nat} (L : Low p n F ls) {u : Nat → Int} (h : ∀ r ∈ F, Orth p n u (ent r)) : Spn p n (found p n F ls) u := by
  have build : ∀ J : List Nat, J.Nodup → (∀ j ∈ J, j < n ∧ j ∉ ls) → ∃ s, Spn p n (found p n F ls) s ∧ (∀ i, i < n → i ∉ ls → s i = if i ∈ J then u i else 0) ∧ ∀ r ∈ F, Orth p n s (ent r) := fun J => by
    induction J with
    | nil =>
      intro _ _
      refine ⟨fun _ => 0, .zero fun _ _ => cg.refl _ _, fun i _ _ => by rw [if_neg (by simp)], fun r _ => ?_⟩
      exact (cg.of_eq (dsum_congr n fun i _ => Int.zero_mul _)).trans (cg.of_eq (dsum_zero n))
    | cons j J ih =>
      intro nd hJ
      obtain ⟨s, a, b, c⟩ := ih (List.nodup_cons.mp nd).2 fun x hx => hJ x (List.mem_cons_of_mem _ hx)
      have hj := hJ j List.mem_cons_self
      have mem : nullV p n F ls j ∈ found p n F ls := List.mem_map.mpr ⟨j, outs_mem.mpr hj, rfl⟩
      refine ⟨fun i => s i + u j * ent (nullV p n F ls j) i, a.lin (u j) (.mem mem), fun i hi hn => ?_, fun r hr => ?_⟩
      · show s i + u j * ent (nullV p n F ls j) i = _
        rw [b i hi hn, nullV_out L.lt hj.1 hn]
        by_cases e : i = j
        · subst e
          rw [if_neg (List.nodup_cons.mp nd).1, if_pos rfl, if_pos List.mem_cons_self]
          omega
        · rw [if_neg e]
          by_cases h2 : i ∈ J
          · rw [if_pos h2, if_pos (List.mem_cons_of_mem _ h2)]
            omega
          · rw [if_neg h2, if_neg (fun z => (List.mem_cons.mp z).elim e h2)]
            omega
      · have e : dsum n (fun i => (s i + u j * ent (nullV p n F ls j) i) * ent r i) = dsum n (fun i => s i * ent r i + u j * (ent (nullV p n F ls j) i * ent r i)) := dsum_congr n fun i _ => by grind
        unfold Orth
        rw [e, dsum_lin]
        have := (c r hr).add ((cg.refl p (u j)).mul (null_orth L hj.1 hj.2 r hr))
        exact this.trans (cg.of_eq (by omega))
  obtain ⟨s, a, b, c⟩ := build (outs n ls) (outs_up.imp fun h => Nat.ne_of_lt h) fun j hj => outs_mem.mp hj
  have same : ∀ i, i < n → i ∉ ls → s i = u i := fun i hi hn => by
    rw [b i hi hn, if_pos (outs_mem.mpr ⟨hi, hn⟩)]
  refine a.cong fun i hi => ?_
  by_cases hn : i ∈ ls
  · obtain ⟨k, hk⟩ := List.getElem?_of_mem hn
    obtain ⟨r, hr⟩ : ∃ r, F[k]? = some r := ⟨F[k]'(by have := (List.getElem?_eq_some_iff.mp hk).1; have := L.dl.1; omega), List.getElem?_eq_getElem _⟩
    have hrm := List.mem_of_getElem? hr
    have d : cg p (dsum n (fun i => (u i + (-1) * s i) * ent r i)) 0 := by
      have e : dsum n (fun i => (u i + (-1) * s i) * ent r i) = dsum n (fun i => u i * ent r i + (-1) * (s i * ent r i)) := dsum_congr n fun i _ => by grind
      rw [e, dsum_lin]
      have := (h r hrm).add ((cg.refl p (-1)).mul (c r hrm))
      exact this.trans (cg.of_eq (by omega))
    have e1 : dsum n (fun m => (u m + (-1) * s m) * ent r m) = dsum n (fun m => if m = i then (u m + (-1) * s m) * ent r m else 0) := dsum_congr n fun m hm => by
      by_cases e : m = i
      · rw [if_pos e]
      · rw [if_neg e]
        by_cases h3 : m ∈ ls
        · obtain ⟨k2, hk2⟩ := List.getElem?_of_mem h3
          have nk : k ≠ k2 := fun z => by
            rw [← z, hk] at hk2
            exact e (Option.some.inj hk2).symm
          rw [L.dl.2 k k2 r m hr hk2, if_neg nk]
          omega
        · rw [same m hm h3]
          grind
    rw [e1, dsum_one (fun m => (u m + (-1) * s m) * ent r m), if_pos hi, L.dl.2 k k r i hr hk, if_pos rfl] at d
    have := d.add (cg.refl p (s i))
    exact (cg.of_eq (by omega)).trans (this.trans (cg.of_eq (by omega)))
  · exact cg.of_eq (same i hi hn).symm
theorem runM_sum {inv : Int → Int} {rows : List Row} : ∀ k, (runM p inv rows k).1.length + (runM p inv rows k).2.length ≤ rows.length
  | 0 => by show 0 + rows.length ≤ rows.length; omega
  | k + 1 => by
    have ih := runM_sum (inv := inv) (rows := rows) k
    show (stepM p inv k (runM p inv rows k)).1.length + (stepM p inv k (runM p inv rows k)).2.length ≤ _
    unfold stepM
    split
    · exact ih
    · rename_i at_ h
      obtain ⟨hl, _⟩ := pick_some h
      show (clearM _ _ _ _ ++ [_]).length + (clearM _ _ _ _).length ≤ _
      unfold clearM
      rw [List.length_append, List.length_map, List.length_map, List.length_singleton, List.length_eraseIdx, if_pos hl]
      omega
theorem lowM_le {inv : Int → Int} (rows : List Row) : (lowM p inv rows).length ≤ rows.length := by
  have := runM_sum (p := p) (inv := inv) (rows := rows) (lenM rows)
  unfold lowM
  omega
/-- rows that are told apart at as many places are no more than a low list whose span has them -/
theorem dual_le {inv : Int → Int} (hp : 2 ≤ p) (hv : InvOk p inv) {G : List Row} {ms : List Nat} (L : Low p n G ms) {J : List Nat} {U : List Row} (hlen : U.length = J.length) (hU : ∀ u ∈ U, Spn p n G (ent u)) (hd : ∀ (a b : Nat) u j, U[a]? = some u → J[b]? = some j → ent u j = if b = a then 1 else 0) (hJ : ∀ j ∈ J, j < n) : J.length ≤ G.length := by
  refine Classical.byContradiction fun c => ?_
  let proj : Row → Row := fun r => J.map (ent r)
  have pw : ∀ r ∈ G.map proj, Wf p J.length r := fun r hr => by
    obtain ⟨g, hg, rfl⟩ := List.mem_map.mp hr
    refine ⟨List.length_map _, fun x hx => ?_⟩
    obtain ⟨j, hj, rfl⟩ := List.mem_map.mp hx
    exact (L.wf g hg).ent (hJ j hj)
  obtain ⟨hs, LH, _, o⟩ := lowM_ok (n := J.length) hp hv pw
  have few : (lowM p inv (G.map proj)).length ≤ G.length := by
    have := lowM_le (p := p) (inv := inv) (G.map proj)
    rw [List.length_map] at this
    exact this
  have out : (outs J.length hs).length ≠ 0 := by
    rw [outs_len LH.up LH.lt, LH.dl.1]
    omega
  obtain ⟨b0, hb0⟩ := List.exists_mem_of_ne_nil (outs J.length hs) (fun e => out (by rw [e]; rfl))
  have hb := outs_mem.mp hb0
  have or1 := null_orth LH hb.1 hb.2
  have x1 : ent (nullV p J.length (lowM p inv (G.map proj)) hs b0) b0 = 1 := by rw [nullV_out LH.lt hb.1 hb.2, if_pos rfl]
  generalize nullV p J.length (lowM p inv (G.map proj)) hs b0 = x at *
  have or2 : ∀ g ∈ G, Orth p J.length (ent (proj g)) (ent x) := fun g hg => Orth.spn (R := lowM p inv (G.map proj)) (fun r hr => (or1 r hr).comm) (o _ (List.mem_map.mpr ⟨g, hg, rfl⟩))
  have pe : ∀ (v : Row) (b : Nat) j, J[b]? = some j → ent (proj v) b = ent v j := fun v b j hb => by
    show (J.map (ent v)).getD b 0 = _
    rw [List.getD_eq_getElem?_getD, List.getElem?_map, hb]
    rfl
  -- the sum over J of v at j times x at its number comes to 0 for all of the span
  have phi : ∀ v, Spn p n G v → cg p (dsum J.length (fun b => v (J.getD b 0) * ent x b)) 0 := fun v hv => by
    induction hv with
    | zero hz =>
      refine (dsum_cg (g := fun _ => 0) J.length fun b hb => ?_).trans (cg.of_eq (dsum_zero _))
      have hjn : J.getD b 0 < n := hJ _ (by rw [getD_el J 0 hb]; exact List.getElem_mem hb)
      exact ((hz _ hjn).mul (cg.refl p (ent x b))).trans (cg.of_eq (by omega))
    | @add u w r cc hr hu e ih =>
      have e2 : cg p (dsum J.length (fun b => w (J.getD b 0) * ent x b)) (dsum J.length (fun b => u (J.getD b 0) * ent x b + cc * (ent r (J.getD b 0) * ent x b))) := dsum_cg _ fun b hb => by
        have hjn : J.getD b 0 < n := hJ _ (by rw [getD_el J 0 hb]; exact List.getElem_mem hb)
        exact ((e _ hjn).mul (cg.refl p (ent x b))).trans (cg.of_eq (by grind))
      refine e2.trans ?_
      rw [dsum_lin]
      have o2 := or2 r hr
      have e3 : dsum J.length (fun b => ent r (J.getD b 0) * ent x b) = dsum J.length (fun b => ent (proj r) b * ent x b) := dsum_congr _ fun b hb => by
        rw [pe r b _ (List.getElem?_eq_getElem hb), getD_el J 0 hb]
      rw [e3]
      have := ih.add ((cg.refl p cc).mul o2)
      exact this.trans (cg.of_eq (by omega))
  obtain ⟨u, hu⟩ : ∃ u, U[b0]? = some u := ⟨U[b0]'(by rw [hlen]; exact hb.1), List.getElem?_eq_getElem _⟩
  have z := phi (ent u) (hU u (List.mem_of_getElem? hu))
  have e : dsum J.length (fun b => ent u (J.getD b 0) * ent x b) = dsum J.length (fun b => if b = b0 then ent x b else 0) := dsum_congr _ fun b hb2 => by
    rw [getD_el J 0 hb2, hd b0 b u _ hu (List.getElem?_eq_getElem hb2)]
    by_cases e : b = b0
    · rw [if_pos e, if_pos e]; omega
    · rw [if_neg e, if_neg e]; omega
  rw [e, dsum_one (fun b => ent x b), if_pos hb.1, x1] at z
  exact one_ne hp z
def acM (p : Int) (inv : Int → Int) (n : Nat) (F : List Row) (ls : List Nat) : List Row := lowM p inv (found p n F ls)
theorem found_len {F : List Row} {ls : List Nat} (L : Low p n F ls) : (found p n F ls).length = n - F.length := by
  unfold found
  rw [List.length_map, outs_len L.up L.lt, L.dl.1]
theorem acM_ok {inv : Int → Int} (hp : 2 ≤ p) (hv : InvOk p inv) {F : List Row} {ls : List Nat} (L : Low p n F ls) :
    ∃ ms, Low p n (acM p inv n F ls) ms ∧ (acM p inv n F ls).length = n - F.length ∧ (∀ r ∈ F, ∀ u ∈ acM p inv n F ls, Orth p n (ent u) (ent r)) ∧ ∀ u, (∀ r ∈ F, Orth p n u (ent r)) → Spn p n (acM p inv n F ls) u := by
  obtain ⟨ms, LG, t, o⟩ := lowM_ok (n := n) hp hv (found_wf (n := n) hp (F := F) (ls := ls))
  refine ⟨ms, LG, ?_, fun r hr u hu => ?_, fun u hu => ?_⟩
  · have le := lowM_le (p := p) (inv := inv) (found p n F ls)
    have ge := dual_le hp hv LG (J := outs n ls) (U := found p n F ls) (by unfold found; rw [List.length_map]) o (fun a b u j hu hj => by
      unfold found at hu
      rw [List.getElem?_map] at hu
      cases ha : (outs n ls)[a]? with
      | none => rw [ha] at hu; cases hu
      | some ja =>
        rw [ha] at hu
        cases Option.some.inj hu
        have m1 := outs_mem.mp (List.mem_of_getElem? ha)
        have m2 := outs_mem.mp (List.mem_of_getElem? hj)
        rw [nullV_out L.lt m1.1 m2.2]
        by_cases e : b = a
        · rw [if_pos e, if_pos (by rw [e, ha] at hj; exact (Option.some.inj hj).symm)]
        · rw [if_neg e, if_neg fun z => ?_]
          subst z
          have nd : (outs n ls).Nodup := outs_up.imp fun h => Nat.ne_of_lt h
          obtain ⟨h1, e1⟩ := List.getElem?_eq_some_iff.mp ha
          obtain ⟨h2, e2⟩ := List.getElem?_eq_some_iff.mp hj
          exact e ((List.getElem_inj nd).mp (e2.trans e1.symm))) (fun j hj => (outs_mem.mp hj).1)
    have fl := found_len L
    rw [outs_len L.up L.lt, L.dl.1] at ge
    show (lowM p inv (found p n F ls)).length = _
    omega
  · exact Orth.spn (fun w hw => found_orth L w hw r hr) (t u hu)
  · exact (found_all hp L hu).mono o
theorem low_same_leads {F G : List Row} {ls : List Nat} (hF : Low p n F ls) (hG : Low p n G ls) (h1 : ∀ r ∈ F, Spn p n G (ent r)) : F = G := by
  have len : F.length = G.length := hF.dl.1.symm.trans hG.dl.1
  refine List.ext_getElem len fun i hi hi' => ?_
  refine row_ext (hF.wf _ (List.getElem_mem hi)) (hG.wf _ (List.getElem_mem hi')) fun j hj => ?_
  have s : Spn p n G (fun j => ent F[i] j + (-1) * ent G[i] j) := (h1 _ (List.getElem_mem hi)).lin (-1) (Spn.mem (List.getElem_mem hi'))
  have z := spn_red hG.dl hG.lt s
  have k := red_keep (p := p) (F := G) hG.lt (v := fun j => ent F[i] j + (-1) * ent G[i] j) (fun l hl => by
    obtain ⟨k, hk⟩ := List.getElem?_of_mem hl
    rw [hF.dl.2 i k _ l (List.getElem?_eq_getElem hi) hk, hG.dl.2 i k _ l (List.getElem?_eq_getElem hi') hk]
    exact cg.of_eq (by grind)) j hj
  have q := (k.symm.trans (z j hj)).add (cg.refl p (ent G[i] j))
  exact (cg.of_eq (by grind)).trans (q.trans (cg.of_eq (by grind)))
theorem up_sub_eq {a b : List Nat} (ha : a.Pairwise (· < ·)) (hb : b.Pairwise (· < ·)) (h : ∀ x ∈ a, x ∈ b) (l : a.length = b.length) : a = b := by
  have e : b.filter (fun x => a.contains x) = a := sorted_eq (List.Pairwise.filter _ hb) ha fun x => by
    rw [List.mem_filter]
    constructor
    · intro h
      simpa using h.2
    · intro hx
      exact ⟨h x hx, by simpa using hx⟩
  have e2 : (b.filter (fun x => a.contains x)).length = b.length := by rw [e, l]
  have all := List.length_filter_eq_length_iff.mp e2
  have e3 := List.filter_eq_self.mpr all
  rw [e] at e3
  exact e3
theorem low_as_many {F G : List Row} {ls ms : List Nat} (hp : 2 ≤ p) (hF : Low p n F ls) (hG : Low p n G ms) (h1 : ∀ r ∈ F, Spn p n G (ent r)) (l : F.length = G.length) : F = G := by
  have e : ls = ms := up_sub_eq hF.up hG.up (lead_in hp hF hG h1) (by rw [hF.dl.1, hG.dl.1, l])
  subst e
  exact low_same_leads hF hG h1
theorem low_few {F : List Row} {ls : List Nat} (L : Low p n F ls) : F.length ≤ n := by
  have e : (List.range n).filter (fun j => ls.contains j) = ls := sorted_eq (List.Pairwise.filter _ List.pairwise_lt_range) L.up fun x => by
    rw [List.mem_filter, List.mem_range]
    constructor
    · intro h
      simpa using h.2
    · intro h
      exact ⟨L.lt x h, by simpa using h⟩
  have := List.length_filter_le (fun j => ls.contains j) (List.range n)
  rw [e, List.length_range] at this
  rw [← L.dl.1]
  exact this
theorem acM_twice {inv : Int → Int} (hp : 2 ≤ p) (hv : InvOk p inv) {F : List Row} {ls ms : List Nat} (L : Low p n F ls) (LG : Low p n (acM p inv n F ls) ms) : acM p inv n (acM p inv n F ls) ms = F := by
  obtain ⟨_, _, l1, o1, _⟩ := acM_ok hp hv L
  obtain ⟨ms2, L2, l2, o2, a2⟩ := acM_ok hp hv LG
  refine (low_as_many hp L L2 (fun r hr => a2 _ fun u hu => (o1 r hr u hu).comm) ?_).symm
  have := low_few L
  omega
end
end My

/-! Polynomials by a prime: what is left, the greatest common one. -/
namespace My
def shf (i : Nat) (g : Nat → Int) : Nat → Int := fun k => if i ≤ k then g (k - i) else 0
/-- one step: the place i + m - 1 is cleared by the i-th shift of g -/
def est (m : Nat) (g : Nat → Int) (i : Nat) (f : Nat → Int) : Nat → Int := fun k => f k - f (i + m - 1) * shf i g k
def rm (m : Nat) (g : Nat → Int) : Nat → (Nat → Int) → Nat → Int
  | 0, f => f
  | d + 1, f => rm m g d (est m g d f)
structure Mon (g : Nat → Int) (m : Nat) : Prop where
  pos : 1 ≤ m
  one : g (m - 1) = 1
  hi : ∀ k, m ≤ k → g k = 0
def Zf (p : Int) (f : Nat → Int) : Prop := ∀ k, cg p (f k) 0
section
variable {p : Int} {m : Nat} {g : Nat → Int}
theorem rm_lin (c : Int) : ∀ (d : Nat) (u v : Nat → Int) (k : Nat), rm m g d (fun j => u j + c * v j) k = rm m g d u k + c * rm m g d v k
  | 0, u, v, k => rfl
  | d + 1, u, v, k => by
    have e : est m g d (fun j => u j + c * v j) = fun j => est m g d u j + c * est m g d v j := by
      funext j
      show (u j + c * v j) - (u (d + m - 1) + c * v (d + m - 1)) * shf d g j = (u j - u (d + m - 1) * shf d g j) + c * (v j - v (d + m - 1) * shf d g j)
      grind
    show rm m g d (est m g d (fun j => u j + c * v j)) k = _
    rw [e, rm_lin c d]
    rfl
theorem rm_zero : ∀ (d : Nat) {f : Nat → Int}, Zf p f → Zf p (rm m g d f)
  | 0, f, h => h
  | d + 1, f, h => rm_zero d fun k => by
    have := (h k).sub ((h (d + m - 1)).mul (cg.refl p (shf d g k)))
    exact this.trans (cg.of_eq (by omega))
theorem rm_cong {d : Nat} {u v : Nat → Int} (h : ∀ k, cg p (u k) (v k)) (k : Nat) : cg p (rm m g d u k) (rm m g d v k) := by
  have z : Zf p (rm m g d (fun j => u j + (-1) * v j)) := rm_zero d fun j => by
    have := (h j).add (cg.refl p ((-1) * v j))
    exact this.trans (cg.of_eq (by omega))
  have a := z k
  rw [rm_lin (-1) d u v] at a
  have := a.add (cg.refl p (rm m g d v k))
  exact (cg.of_eq (by omega)).trans (this.trans (cg.of_eq (by omega)))
theorem rm_keep : ∀ (d : Nat) {f : Nat → Int}, (∀ k, m - 1 ≤ k → cg p (f k) 0) → ∀ k, cg p (rm m g d f k) (f k)
  | 0, f, _, k => cg.refl _ _
  | d + 1, f, h, k => by
    have e : ∀ j, cg p (est m g d f j) (f j) := fun j => by
      have := (cg.refl p (f j)).sub ((h (d + m - 1) (by omega)).mul (cg.refl p (shf d g j)))
      exact this.trans (cg.of_eq (by omega))
    exact (rm_keep d (fun j hj => (e j).trans (h j hj)) k).trans (e k)
theorem rm_shift (M : Mon g m) : ∀ (d i : Nat), i < d → Zf p (rm m g d (shf i g))
  | 0, i, h => absurd h (Nat.not_lt_zero _)
  | d + 1, i, h => by
    have mp := M.pos
    by_cases e : i = d
    · subst e
      refine rm_zero i fun k => cg.of_eq ?_
      have t : shf i g (i + m - 1) = 1 := by
        unfold shf
        rw [if_pos (by omega), show i + m - 1 - i = m - 1 by omega]
        exact M.one
      show shf i g k - shf i g (i + m - 1) * shf i g k = 0
      rw [t]
      omega
    · have t : shf i g (d + m - 1) = 0 := by
        unfold shf
        rw [if_pos (by omega)]
        exact M.hi _ (by omega)
      have e2 : est m g d (shf i g) = shf i g := by
        funext k
        show shf i g k - shf i g (d + m - 1) * shf d g k = _
        rw [t]
        omega
      show Zf p (rm m g d (est m g d (shf i g)))
      rw [e2]
      exact rm_shift M d i (by omega)
theorem est_high (M : Mon g m) {d : Nat} {f : Nat → Int} (h : ∀ k, d + 1 + m - 1 ≤ k → cg p (f k) 0) : ∀ k, d + m - 1 ≤ k → cg p (est m g d f k) 0 := fun k hk => by
  have mp := M.pos
  by_cases e : k = d + m - 1
  · have t : shf d g k = 1 := by
      unfold shf
      rw [if_pos (by omega), show k - d = m - 1 by omega]
      exact M.one
    refine cg.of_eq ?_
    show f k - f (d + m - 1) * shf d g k = 0
    rw [t, e]
    omega
  · have t : shf d g k = 0 := by
      unfold shf
      rw [if_pos (by omega)]
      exact M.hi _ (by omega)
    have e2 : est m g d f k = f k := by
      show f k - f (d + m - 1) * shf d g k = f k
      rw [t]
      omega
    rw [e2]
    exact h k (by omega)
theorem rm_high (M : Mon g m) : ∀ (d : Nat) {f : Nat → Int}, (∀ k, d + m - 1 ≤ k → cg p (f k) 0) → ∀ k, m - 1 ≤ k → cg p (rm m g d f k) 0
  | 0, f, h, k, hk => h k (by omega)
  | d + 1, f, h, k, hk => rm_high M d (est_high M h) k hk
theorem rm_more {d : Nat} {f : Nat → Int} (mp : 1 ≤ m) (h : ∀ k, d + m - 1 ≤ k → cg p (f k) 0) : ∀ e k, cg p (rm m g (d + e) f k) (rm m g d f k)
  | 0, k => cg.refl _ _
  | e + 1, k => by
    have s : ∀ j, cg p (est m g (d + e) f j) (f j) := fun j => by
      have := (cg.refl p (f j)).sub ((h (d + e + m - 1) (by omega)).mul (cg.refl p (shf (d + e) g j)))
      exact this.trans (cg.of_eq (by omega))
    exact (rm_cong (d := d + e) s k).trans (rm_more mp h e k)
/-- a multiple of g, by shifts below N -/
inductive Mu (p : Int) (g : Nat → Int) (N : Nat) : (Nat → Int) → Prop
  | zero {f} (h : Zf p f) : Mu p g N f
  | add {u f} (c : Int) (i : Nat) (hi : i < N) (hu : Mu p g N u) (h : ∀ k, cg p (f k) (u k + c * shf i g k)) : Mu p g N f
theorem Mu.cong {N : Nat} {u v : Nat → Int} (h : Mu p g N u) (e : ∀ k, cg p (v k) (u k)) : Mu p g N v := by
  cases h with
  | zero h => exact .zero fun k => (e k).trans (h k)
  | add c i hi hu h => exact .add c i hi hu fun k => (e k).trans (h k)
theorem Mu.mono {N M : Nat} (l : N ≤ M) {f : Nat → Int} (h : Mu p g N f) : Mu p g M f := by
  induction h with
  | zero h => exact .zero h
  | add c i hi _ h ih => exact .add c i (by omega) ih h
theorem Mu.lin {N : Nat} (c : Int) {u v : Nat → Int} (hu : Mu p g N u) (hv : Mu p g N v) : Mu p g N (fun k => u k + c * v k) := by
  induction hv with
  | zero h =>
    refine hu.cong fun k => ?_
    have := (cg.refl p (u k)).add ((cg.refl p c).mul (h k))
    exact this.trans (cg.of_eq (by omega))
  | add d i hi _ h ih =>
    refine .add (c * d) i hi ih fun k => ?_
    have := (cg.refl p (u k)).add ((cg.refl p c).mul (h k))
    exact this.trans (cg.of_eq (by grind))
theorem shf_shf (i j : Nat) (k : Nat) : shf i (shf j g) k = shf (i + j) g k := by
  unfold shf
  by_cases h : i ≤ k
  · rw [if_pos h]
    by_cases h2 : j ≤ k - i
    · rw [if_pos h2, if_pos (by omega), show k - i - j = k - (i + j) by omega]
    · rw [if_neg h2, if_neg (by omega)]
  · rw [if_neg h, if_neg (by omega)]
theorem Mu.shf {N : Nat} (i : Nat) {f : Nat → Int} (h : Mu p g N f) : Mu p g (N + i) (My.shf i f) := by
  induction h with
  | zero h =>
    refine .zero fun k => ?_
    unfold My.shf
    split
    · exact h _
    · exact cg.refl _ _
  | @add u f c j hj _ e ih =>
    refine .add c (i + j) (by omega) ih fun k => ?_
    rw [← shf_shf i j k]
    unfold My.shf
    split
    · exact e _
    · exact cg.of_eq (by omega)
theorem Mu.trans {G : Nat → Int} {N M : Nat} {f : Nat → Int} (h : Mu p g N f) (hg : Mu p G M g) : Mu p G (M + N) f := by
  induction h with
  | zero h => exact .zero h
  | add c i hi _ e ih => exact (ih.lin c ((hg.shf i).mono (by omega))).cong e
theorem mu_rm (M : Mon g m) {N d : Nat} (l : N ≤ d) {f : Nat → Int} (h : Mu p g N f) : Zf p (rm m g d f) := by
  induction h with
  | zero h => exact rm_zero d h
  | @add u f c i hi _ e ih =>
    have z := rm_shift (p := p) M d i (by omega)
    have a : Zf p (rm m g d (fun k => u k + c * My.shf i g k)) := fun k => by
      rw [rm_lin c d]
      have := (ih k).add ((cg.refl p c).mul (z k))
      exact this.trans (cg.of_eq (by omega))
    exact fun k => (rm_cong e k).trans (a k)
theorem rm_mu : ∀ (d : Nat) (f : Nat → Int), Mu p g d (fun k => f k - rm m g d f k)
  | 0, f => .zero fun k => cg.of_eq (by show f k - f k = 0; omega)
  | d + 1, f => by
    have ih := (rm_mu d (est m g d f)).mono (Nat.le_succ d)
    refine .add (f (d + m - 1)) d (Nat.lt_succ_self d) ih fun k => cg.of_eq ?_
    show f k - rm m g d (est m g d f) k = (f k - f (d + m - 1) * shf d g k - rm m g d (est m g d f) k) + f (d + m - 1) * shf d g k
    omega
/-! ### lists -/
structure Pol (p : Int) (a : Row) : Prop where
  rng : ∀ x ∈ a, 0 ≤ x ∧ x < p
  last : a ≠ [] → ent a (a.length - 1) ≠ 0
theorem ent_out {a : Row} {k : Nat} (h : a.length ≤ k) : ent a k = 0 := by
  unfold ent
  rw [List.getD_eq_getElem?_getD, List.getElem?_eq_none h]
  rfl
theorem ent_rng {a : Row} (hp : 0 < p) (h : ∀ x ∈ a, 0 ≤ x ∧ x < p) (k : Nat) : 0 ≤ ent a k ∧ ent a k < p := by
  by_cases l : k < a.length
  · exact h _ (ent_mem l)
  · rw [ent_out (by omega)]
    omega
theorem ne_nil_len {a : Row} : a ≠ [] ↔ 0 < a.length := by
  cases a with
  | nil => simp
  | cons x a => simp
theorem pol_le (hp : 0 < p) {a b : Row} (B : Pol p b) (h : ∀ k, cg p (ent a k) (ent b k)) (A : ∀ x ∈ a, 0 ≤ x ∧ x < p) : b.length ≤ a.length := by
  refine Classical.byContradiction fun c => ?_
  have nb : b ≠ [] := ne_nil_len.mpr (by omega)
  have e := h (b.length - 1)
  rw [ent_out (a := a) (by omega)] at e
  have r := ent_rng hp B.rng (b.length - 1)
  exact B.last nb (e.eq (by omega) (by omega) r.1 r.2).symm
theorem pol_ext (hp : 0 < p) {a b : Row} (A : Pol p a) (B : Pol p b) (h : ∀ k, cg p (ent a k) (ent b k)) : a = b := by
  have l1 := pol_le hp B h A.rng
  have l2 := pol_le hp A (fun k => (h k).symm) B.rng
  have len : a.length = b.length := by omega
  refine List.ext_getElem? fun k => ?_
  by_cases hk : k < a.length
  · rw [ent_some hk, ent_some (by omega)]
    have r1 := ent_rng hp A.rng k
    have r2 := ent_rng hp B.rng k
    rw [(h k).eq r1.1 r1.2 r2.1 r2.2]
  · rw [List.getElem?_eq_none (by omega), List.getElem?_eq_none (by omega)]
def lastE (a : Row) : Int := ent a (a.length - 1)
theorem last_rng (hp : 0 < p) {a : Row} (A : Pol p a) (h : a ≠ []) : 0 < lastE a ∧ lastE a < p := by
  have r := ent_rng hp A.rng (a.length - 1)
  have n := A.last h
  unfold lastE
  omega
theorem mulR_length {c : Int} {a : Row} : (mulR p c a).length = a.length := by
  unfold mulR
  rw [List.length_map]
theorem mulR_cg {c : Int} {a : Row} (k : Nat) : cg p (ent (mulR p c a) k) (c * ent a k) := by
  by_cases h : k < a.length
  · have e := ent_some (r := mulR p c a) (j := k) (by rw [mulR_length]; exact h)
    unfold mulR at e
    rw [List.getElem?_map, ent_some h] at e
    have e2 : c * ent a k % p = ent (mulR p c a) k := Option.some.inj e
    rw [← e2]
    exact cg.emod _ _
  · rw [ent_out (by rw [mulR_length]; omega), ent_out (by omega)]
    exact cg.of_eq (by omega)
theorem mulR_rng (hp : 0 < p) {c : Int} {a : Row} : ∀ x ∈ mulR p c a, 0 ≤ x ∧ x < p := fun x hx => by
  obtain ⟨y, _, rfl⟩ := List.mem_map.mp hx
  exact ⟨Int.emod_nonneg _ (by omega), Int.emod_lt_of_pos _ hp⟩
theorem unit_ne (h5 : P5 p) {c x : Int} (hc : 0 < c) (hc2 : c < p) (hx : 0 < x) (hx2 : x < p) : ¬ cg p (c * x) 0 := fun h => by
  have two := h5.two
  have i := inv_is h5 c hc hc2
  have a : cg p (invM p c * (c * x)) 0 := ((cg.refl p (invM p c)).mul h).trans (cg.of_eq (by omega))
  have b : cg p (invM p c * c * x) (1 * x) := ((cg.emod p _).symm.trans (cg.of_eq i)).mul (cg.refl p x)
  have e : cg p x 0 := ((cg.of_eq (by omega)).trans b.symm).trans ((cg.of_eq (by grind)).trans a)
  have := e.eq (by omega) hx2 (by omega) (by omega)
  omega
theorem mulR_pol (h5 : P5 p) {c : Int} (hc : 0 < c) (hc2 : c < p) {a : Row} (A : Pol p a) : Pol p (mulR p c a) := by
  have two := h5.two
  refine ⟨mulR_rng (by omega), fun hn z => ?_⟩
  have na : a ≠ [] := fun e => hn (by rw [e]; rfl)
  have r := last_rng (by omega) A na
  rw [mulR_length] at z
  have e := mulR_cg (p := p) (c := c) (a := a) (a.length - 1)
  rw [z] at e
  exact unit_ne h5 hc hc2 r.1 r.2 e.symm
/-- the multiple whose last rest is 1 -/
def mon (p : Int) (a : Row) : Row := if a = [] then [] else mulR p (invM p (lastE a)) a
theorem mon_nil : mon p [] = [] := rfl
theorem mon_of {a : Row} (h : a ≠ []) : mon p a = mulR p (invM p (lastE a)) a := if_neg h
theorem mon_len {a : Row} : (mon p a).length = a.length := by
  by_cases h : a = []
  · rw [h]
    rfl
  · rw [mon_of h, mulR_length]
theorem mon_inv (h5 : P5 p) {a : Row} (A : Pol p a) (h : a ≠ []) : 0 < invM p (lastE a) ∧ invM p (lastE a) < p ∧ invM p (lastE a) * lastE a % p = 1 := by
  have two := h5.two
  have r := last_rng (by omega) A h
  obtain ⟨i1, i2, i3⟩ := inv_ok h5 r.1 r.2
  exact ⟨i1, i2, inv_is h5 _ r.1 r.2⟩
theorem mon_pol (h5 : P5 p) {a : Row} (A : Pol p a) : Pol p (mon p a) := by
  by_cases h : a = []
  · rw [h]
    exact ⟨fun x hx => by simp [mon] at hx, fun h => absurd rfl h⟩
  · rw [mon_of h]
    have i := mon_inv h5 A h
    exact mulR_pol h5 i.1 i.2.1 A
theorem mon_last (h5 : P5 p) {a : Row} (A : Pol p a) (h : a ≠ []) : ent (mon p a) (a.length - 1) = 1 := by
  have two := h5.two
  have i := mon_inv h5 A h
  have e := mulR_cg (p := p) (c := invM p (lastE a)) (a := a) (a.length - 1)
  rw [← mon_of h] at e
  have r := ent_rng (show 0 < p by omega) (mon_pol h5 A).rng (a.length - 1)
  exact (e.trans ((cg.emod p _).symm.trans (cg.of_eq i.2.2))).eq r.1 r.2 (by omega) (by omega)
theorem mon_mon (h5 : P5 p) {a : Row} (A : Pol p a) (h : a ≠ []) : Mon (ent (mon p a)) a.length :=
  ⟨ne_nil_len.mp h, mon_last h5 A h, fun k hk => ent_out (by rw [mon_len]; exact hk)⟩
theorem mon_scale (h5 : P5 p) {c : Int} (hc : 0 < c) (hc2 : c < p) {a : Row} (A : Pol p a) : mon p (mulR p c a) = mon p a := by
  have two := h5.two
  have B := mulR_pol h5 hc hc2 A
  by_cases h : a = []
  · rw [h]
    rfl
  · have hb : mulR p c a ≠ [] := ne_nil_len.mpr (by rw [mulR_length]; exact ne_nil_len.mp h)
    refine pol_ext (by omega) (mon_pol h5 B) (mon_pol h5 A) fun k => ?_
    have iA := mon_inv h5 A h
    have iB := mon_inv h5 B hb
    have eA := mulR_cg (p := p) (c := invM p (lastE a)) (a := a) k
    have eB := mulR_cg (p := p) (c := invM p (lastE (mulR p c a))) (a := mulR p c a) k
    rw [← mon_of h] at eA
    rw [← mon_of hb] at eB
    -- x * c * last = 1 and y * last = 1: so x * c = y
    generalize invM p (lastE (mulR p c a)) = x at *
    generalize invM p (lastE a) = y at *
    have l : cg p (lastE (mulR p c a)) (c * lastE a) := by
      unfold lastE
      rw [mulR_length]
      exact mulR_cg _
    have h1 : cg p (x * (c * lastE a)) 1 := (((cg.refl p x).mul l).symm.trans (cg.emod p _).symm).trans (cg.of_eq iB.2.2)
    have h2 : cg p (y * lastE a) 1 := (cg.emod p _).symm.trans (cg.of_eq iA.2.2)
    have xy : cg p (x * c) y := by
      have a1 : cg p (x * c * (y * lastE a)) (x * c * 1) := (cg.refl p _).mul h2
      have a2 : cg p (y * (x * (c * lastE a))) (y * 1) := (cg.refl p _).mul h1
      exact ((cg.of_eq (by omega)).trans a1.symm).trans ((cg.of_eq (by grind)).trans (a2.trans (cg.of_eq (by omega))))
    have b1 : cg p (ent (mon p (mulR p c a)) k) (x * (c * ent a k)) := eB.trans ((cg.refl p x).mul (mulR_cg k))
    exact b1.trans ((cg.of_eq (by grind)).trans ((xy.mul (cg.refl p (ent a k))).trans eA.symm))
/-- r is what is left of a by b -/
structure Rem (p : Int) (a b r : Row) : Prop where
  pol : Pol p r
  is : ∀ k, cg p (ent r k) (rm b.length (ent (mon p b)) (a.length + 1 - b.length) (ent a) k)
theorem rem_len (h5 : P5 p) {a b r : Row} (B : Pol p b) (hb : b ≠ []) (R : Rem p a b r) : r.length < b.length := by
  have two := h5.two
  refine Classical.byContradiction fun c => ?_
  have lb := ne_nil_len.mp hb
  have hr : r ≠ [] := ne_nil_len.mpr (by omega)
  have z := rm_high (p := p) (mon_mon h5 B hb) (a.length + 1 - b.length) (f := ent a) (fun k hk => cg.of_eq (ent_out (by omega))) (r.length - 1) (by omega)
  have e := (R.is (r.length - 1)).trans z
  have rr := last_rng (by omega) R.pol hr
  have := e.eq (by unfold lastE at rr; omega) (by unfold lastE at rr; omega) (Int.le_refl _) (by omega)
  exact R.pol.last hr this
theorem rem_unique (hp : 0 < p) {a b r s : Row} (R : Rem p a b r) (S : Rem p a b s) : r = s := pol_ext hp R.pol S.pol fun k => (R.is k).trans (S.is k).symm
/-- Euclid's way -/
inductive Euc (p : Int) : Row → Row → Row → Prop
  | base (a : Row) : Euc p a [] (mon p a)
  | step {a b r g : Row} (hb : b ≠ []) (R : Rem p a b r) (E : Euc p b r g) : Euc p a b g
theorem Euc.one (h5 : P5 p) {a b g : Row} (E : Euc p a b g) : Pol p a → Pol p b → (a ≠ [] ∨ b ≠ []) → g ≠ [] ∧ Pol p g ∧ ent g (g.length - 1) = 1 := by
  induction E with
  | base a =>
    intro A _ h
    have ha : a ≠ [] := h.resolve_right fun n => n rfl
    refine ⟨ne_nil_len.mpr (by rw [mon_len]; exact ne_nil_len.mp ha), mon_pol h5 A, ?_⟩
    rw [mon_len]
    exact mon_last h5 A ha
  | step hb R _ ih =>
    intro _ B _
    exact ih B R.pol (.inl hb)
/-- it divides both -/
theorem Euc.div (h5 : P5 p) {a b g : Row} (E : Euc p a b g) : Pol p a → Pol p b → (∃ N, Mu p (ent g) N (ent a)) ∧ ∃ N, Mu p (ent g) N (ent b) := by
  have two := h5.two
  induction E with
  | base a =>
    intro A _
    refine ⟨⟨1, ?_⟩, 0, .zero fun k => cg.of_eq (ent_out (Nat.zero_le _))⟩
    by_cases h : a = []
    · rw [h]
      exact .zero fun k => cg.of_eq (ent_out (Nat.zero_le _))
    · refine .add (lastE a) 0 (Nat.lt_succ_self 0) (.zero (f := fun _ => 0) fun _ => cg.refl _ _) fun k => ?_
      have i := mon_inv h5 A h
      have e := mulR_cg (p := p) (c := invM p (lastE a)) (a := a) k
      rw [← mon_of h] at e
      have s : shf 0 (ent (mon p a)) k = ent (mon p a) k := by
        unfold shf
        rw [if_pos (Nat.zero_le _), Nat.sub_zero]
      rw [s]
      have h1 : cg p (invM p (lastE a) * lastE a) 1 := (cg.emod p _).symm.trans (cg.of_eq i.2.2)
      have h2 : cg p (lastE a * ent (mon p a) k) (lastE a * (invM p (lastE a) * ent a k)) := (cg.refl p _).mul e
      have h3 := h1.mul (cg.refl p (ent a k))
      exact ((cg.of_eq (by omega)).trans h3.symm).trans ((cg.of_eq (by grind)).trans (h2.symm.trans (cg.of_eq (by omega))))
  | @step a b r g hb R E ih =>
    intro A B
    obtain ⟨⟨N1, m1⟩, N2, m2⟩ := ih B R.pol
    refine ⟨?_, N1, m1⟩
    have d := rm_mu (p := p) (m := b.length) (g := ent (mon p b)) (a.length + 1 - b.length) (ent a)
    -- mon b is a multiple of b
    have mb : Mu p (ent b) 1 (ent (mon p b)) := by
      refine .add (invM p (lastE b)) 0 (Nat.lt_succ_self 0) (.zero (f := fun _ => 0) fun _ => cg.refl _ _) fun k => ?_
      have e := mulR_cg (p := p) (c := invM p (lastE b)) (a := b) k
      rw [← mon_of hb] at e
      have s : shf 0 (ent b) k = ent b k := by
        unfold shf
        rw [if_pos (Nat.zero_le _), Nat.sub_zero]
      rw [s]
      exact e.trans (cg.of_eq (by omega))
    have d2 := (d.trans mb).trans m1
    refine ⟨N1 + (1 + (a.length + 1 - b.length)) + N2, ?_⟩
    have s := (d2.mono (M := N1 + (1 + (a.length + 1 - b.length)) + N2) (by omega)).lin 1 (m2.mono (M := N1 + (1 + (a.length + 1 - b.length)) + N2) (by omega))
    refine s.cong fun k => ?_
    have e := R.is k
    have := (cg.refl p (ent a k - rm b.length (ent (mon p b)) (a.length + 1 - b.length) (ent a) k)).add e.symm
    exact (cg.of_eq (by omega)).trans (this.trans (cg.of_eq (by omega)))
/-- by a list with 1 as its last rest a multiple of it leaves nought -/
theorem mu_left {g a : Row} (hg : 0 < g.length) (g1 : ent g (g.length - 1) = 1) {N : Nat} (h : Mu p (ent g) N (ent a)) : Zf p (rm g.length (ent g) (a.length + 1 - g.length) (ent a)) := by
  have M : Mon (ent g) g.length := ⟨hg, g1, fun k hk => ent_out hk⟩
  have z := mu_rm M (d := a.length + 1 - g.length + N) (by omega) h
  have e := rm_more (p := p) (g := ent g) (m := g.length) (d := a.length + 1 - g.length) (f := ent a) hg (fun k hk => cg.of_eq (ent_out (by omega))) N
  exact fun k => (e k).symm.trans (z k)
theorem mon_self (h5 : P5 p) {g : Row} (G : Pol p g) (hg : g ≠ []) (g1 : ent g (g.length - 1) = 1) : mon p g = g := by
  have two := h5.two
  refine pol_ext (by omega) (mon_pol h5 G) G fun k => ?_
  rw [mon_of hg]
  have e : lastE g = 1 := g1
  have i : invM p 1 = 1 := by
    obtain ⟨_, _, c⟩ := inv_ok h5 (r := 1) (by omega) (by omega)
    exact ((c 1 (by omega) (by omega)).mp (by rw [Int.mul_one]; exact Int.emod_eq_of_lt (by omega) (by omega))).symm
  rw [e, i]
  exact (mulR_cg k).trans (cg.of_eq (by omega))
theorem rem_scale (h5 : P5 p) {c : Int} (hc : 0 < c) (hc2 : c < p) {a b r s : Row} (R : Rem p a b r) (S : Pol p s) (h : ∀ k, cg p (ent s k) (rm b.length (ent (mon p b)) (a.length + 1 - b.length) (ent (mulR p c a)) k)) : s = mulR p c r := by
  have two := h5.two
  refine pol_ext (by omega) S (mulR_pol h5 hc hc2 R.pol) fun k => ?_
  refine (h k).trans ?_
  have e1 := rm_cong (p := p) (m := b.length) (g := ent (mon p b)) (d := a.length + 1 - b.length) (u := ent (mulR p c a)) (v := fun j => (fun _ => (0 : Int)) j + c * ent a j) (fun j => (mulR_cg j).trans (cg.of_eq (by show c * ent a j = (0 : Int) + c * ent a j; omega))) k
  rw [rm_lin c] at e1
  have z : cg p (rm b.length (ent (mon p b)) (a.length + 1 - b.length) (fun _ => (0 : Int)) k) 0 := rm_zero (p := p) _ (fun _ => cg.refl _ _) k
  have e2 := z.add ((cg.refl p c).mul (R.is k).symm)
  exact (e1.trans e2).trans ((cg.of_eq (by omega)).trans (mulR_cg k).symm)
theorem mulR_one {a : Row} (h : ∀ x ∈ a, 0 ≤ x ∧ x < p) : mulR p 1 a = a := by
  unfold mulR
  refine (List.map_congr_left fun x hx => ?_).trans (List.map_id a)
  rw [Int.one_mul]
  exact Int.emod_eq_of_lt (h x hx).1 (h x hx).2
end
end My

/-! Low lists, told row by row. -/
namespace My
section
variable {p : Int} {n : Nat} {M : List Row} {ls : List Nat}
structure Pre (p : Int) (n : Nat) (M : List Row) (ls : List Nat) : Prop where
  len : ls.length = M.length
  row : ∀ (i : Nat) m l, M[i]? = some m → ls[i]? = some l → Wf p n m ∧ l < n ∧ (∀ j, j < l → ent m j = 0) ∧ ent m l = 1
  up : ls.Pairwise (· < ·)
theorem Low.pre (h : Low p n M ls) : Pre p n M ls := ⟨h.dl.1, fun i m l hm hl => ⟨h.wf m (List.mem_of_getElem? hm), h.lt l (List.mem_of_getElem? hl), h.zb i m l hm hl, by rw [h.dl.2 i i m l hm hl, if_pos rfl]⟩, h.up⟩
theorem get_two {α β : Type} {a : List α} {b : List β} (h : a.length = b.length) {i : Nat} {x : α} (hx : a[i]? = some x) : ∃ y, b[i]? = some y := by
  have := (List.getElem?_eq_some_iff.mp hx).1
  exact ⟨b[i]'(by omega), List.getElem?_eq_getElem _⟩
theorem Pre.low (h : Pre p n M ls) (al : ∀ (i k : Nat) m l, M[i]? = some m → ls[k]? = some l → i ≠ k → ent m l = 0) : Low p n M ls := by
  refine ⟨fun m hm => ?_, ⟨h.len, fun i k m l hm hl => ?_⟩, fun l hl => ?_, h.up, fun i m l hm hl => (h.row i m l hm hl).2.2.1⟩
  · obtain ⟨i, hi⟩ := List.getElem?_of_mem hm
    obtain ⟨l, hl⟩ := get_two h.len.symm hi
    exact (h.row i m l hi hl).1
  · by_cases e : i = k
    · rw [if_pos e]
      subst e
      exact (h.row i m l hm hl).2.2.2
    · rw [if_neg e]
      exact al i k m l hm hl e
  · obtain ⟨i, hi⟩ := List.getElem?_of_mem hl
    obtain ⟨m, hm⟩ := get_two h.len hi
    exact (h.row i m l hm hi).2.1
theorem Pre.nil : Pre p n [] [] := ⟨rfl, fun i m l h => by simp at h, List.Pairwise.nil⟩
theorem Pre.snoc {m : Row} {l : Nat} (h : Pre p n M ls) (w : Wf p n m) (hl : l < n) (z : ∀ j, j < l → ent m j = 0) (o : ent m l = 1) (up : ∀ x ∈ ls, x < l) : Pre p n (M ++ [m]) (ls ++ [l]) := by
  refine ⟨by rw [List.length_append, List.length_append, h.len]; rfl, fun i a b ha hb => ?_, ?_⟩
  · by_cases c : i < M.length
    · rw [List.getElem?_append_left c] at ha
      rw [List.getElem?_append_left (by rw [h.len]; exact c)] at hb
      exact h.row i a b ha hb
    · have hi : i < (M ++ [m]).length := (List.getElem?_eq_some_iff.mp ha).1
      rw [List.length_append] at hi
      have e : i = M.length := by
        have : i < M.length + 1 := hi
        omega
      subst e
      rw [List.getElem?_append_right (Nat.le_refl _), Nat.sub_self] at ha
      rw [← h.len, List.getElem?_append_right (Nat.le_refl _), Nat.sub_self] at hb
      cases ha
      cases hb
      exact ⟨w, hl, z, o⟩
  · refine List.pairwise_append.mpr ⟨h.up, List.pairwise_singleton _ _, fun x hx y hy => ?_⟩
    rw [List.mem_singleton.mp hy]
    exact up x hx
/-- the first number that is not 0 is at one place -/
theorem lead_one {m : Row} {l l' : Nat} (z : ∀ j, j < l → ent m j = 0) (o : ent m l ≠ 0) (z' : ∀ j, j < l' → ent m j = 0) (o' : ent m l' ≠ 0) : l = l' := by
  by_cases a : l < l'
  · exact absurd (z' l a) o
  · by_cases b : l' < l
    · exact absurd (z l' b) o'
    · omega
theorem Pre.same {ms : List Nat} (h : Pre p n M ls) (h' : Pre p n M ms) : ls = ms := by
  refine List.ext_getElem (h.len.trans h'.len.symm) fun i hi hi' => ?_
  have hm : M[i]? = some (M[i]'(by have := h.len; omega)) := List.getElem?_eq_getElem _
  obtain ⟨_, _, z, o⟩ := h.row i _ _ hm (List.getElem?_eq_getElem hi)
  obtain ⟨_, _, z', o'⟩ := h'.row i _ _ hm (List.getElem?_eq_getElem hi')
  exact lead_one z (by rw [o]; decide) z' (by rw [o']; decide)
theorem filter_none {α : Type} {f : α → Bool} {L : List α} : (L.filter f).length = 0 ↔ ∀ (i : Nat) y, L[i]? = some y → f y = false := by
  rw [List.length_eq_zero_iff, List.filter_eq_nil_iff]
  constructor
  · intro h i y hy
    have := h y (List.mem_of_getElem? hy)
    simpa using this
  · intro h y hy
    obtain ⟨i, hi⟩ := List.getElem?_of_mem hy
    rw [h i y hi]
    decide
theorem only_one {α : Type} {f : α → Bool} : ∀ {L : List α} {k : Nat} {x : α}, L[k]? = some x → f x = true → ((L.filter f).length = 1 ↔ ∀ (i : Nat) y, L[i]? = some y → i ≠ k → f y = false)
  | [], k, x, h, _ => by simp at h
  | a :: L, 0, x, h, hf => by
    have e : a = x := by simpa using h
    rw [e, List.filter_cons, if_pos hf, List.length_cons]
    have q := filter_none (f := f) (L := L)
    constructor
    · intro z i y hy hi
      cases i with
      | zero => exact absurd rfl hi
      | succ i => exact q.mp (by omega) i y (by simpa using hy)
    · intro z
      have := q.mpr fun i y hy => z (i + 1) y (by simpa using hy) (by omega)
      omega
  | a :: L, k + 1, x, h, hf => by
    have ih := only_one (f := f) (L := L) (k := k) (x := x) (by simpa using h) hf
    rw [List.filter_cons]
    by_cases ha : f a = true
    · rw [if_pos ha, List.length_cons]
      constructor
      · intro z
        have z0 : (L.filter f).length = 0 := by omega
        have := filter_none.mp z0 k x (by simpa using h)
        rw [hf] at this
        cases this
      · intro z
        have := z 0 a rfl (by omega)
        rw [ha] at this
        cases this
    · rw [if_neg ha]
      constructor
      · intro z i y hy hi
        cases i with
        | zero =>
          have e : a = y := by simpa using hy
          rw [← e]
          simpa using ha
        | succ i => exact ih.mp z i y (by simpa using hy) (by omega)
      · intro z
        exact ih.mpr fun i y hy hi => z (i + 1) y (by simpa using hy) (by omega)
/-- how many of the rows have a number at l -/
def cntL (l : Nat) (M : List Row) : Nat := (M.filter fun r => decide (ent r l ≠ 0)).length
theorem Pre.low_iff (h : Pre p n M ls) : (∀ (k : Nat) m l, M[k]? = some m → ls[k]? = some l → cntL l M = 1) ↔ Low p n M ls := by
  constructor
  · intro a
    refine h.low fun i k m l hm hl ne => ?_
    obtain ⟨mk, hk⟩ := get_two h.len hl
    have q := (only_one (f := fun r => decide (ent r l ≠ 0)) hk (by
      rw [decide_eq_true]
      rw [(h.row k mk l hk hl).2.2.2]
      decide)).mp (a k mk l hk hl) i m hm ne
    simpa using q
  · intro L k m l hm hl
    refine (only_one (f := fun r => decide (ent r l ≠ 0)) hm (by
      rw [decide_eq_true]
      rw [(h.row k m l hm hl).2.2.2]
      decide)).mpr fun i y hy ne => ?_
    have := L.dl.2 i k y l hy hl
    rw [if_neg ne] at this
    rw [this]
    decide
end
end My

namespace My
open PySem PySem.Spec PyProof.Rows L2
section
variable {P : Program} {w : World} {K : PySem.W.Frag} {mg : Str → Option Value} {base : Heap}
abbrev iv (m : List Int) : List V := m.map V.int

abbrev rf (rs : List Addr) : List V := rs.map V.ref

theorem same_new {H : Hp} {q : Addr} {o : HO} (h : H q = none) : Same H (upd H q o) := fun b x e => by
  rw [upd_ne (ne_of_none e h)]
  exact e

theorem same_upd {H H' : Hp} {q : Addr} {o : HO} (h : H q = none) (s : Same H H') : Same H (upd H' q o) := fun b x e => by
  rw [upd_ne (ne_of_none e h)]
  exact s b x e

theorem same_none {H H' : Hp} {q : Addr} (s : Same H H') (h : H' q = none) : H q = none := s.free h

/-- a list at its own place in the heap -/
abbrev IL (H : Hp) (a : Addr) (m : List Int) : Prop := H a = some (.lst (iv m))

theorem IL.sq {K : PySem.W.Frag} {H : Hp} {a : Addr} {m : List Int} (h : IL H a m) : SqL K H a (iv m) := SqL.of h

/-- a list of rows -/
structure Tab (H : Hp) (a : Addr) (rs : List Addr) (M : List Row) : Prop where
  at_ : H a = some (.lst (rf rs))
  len : rs.length = M.length
  row : ∀ (i : Nat) r m, rs[i]? = some r → M[i]? = some m → IL H r m

theorem Tab.same {H H' : Hp} {a : Addr} {rs : List Addr} {M : List Row} (t : Tab H a rs M) (s : Same H H') : Tab H' a rs M := ⟨s _ _ t.at_, t.len, fun i r m hr hm => s _ _ (t.row i r m hr hm)⟩

theorem iv_get {m : List Int} {i : Nat} {x : Int} (h : m[i]? = some x) : (iv m)[i]? = some (V.int x) := by
  rw [List.getElem?_map, h]
  rfl

theorem iv_ent {m : List Int} {i : Nat} (h : i < m.length) : (iv m)[i]? = some (V.int (ent m i)) := iv_get (ent_some h)

theorem rf_get {rs : List Addr} {i : Nat} {r : Addr} (h : rs[i]? = some r) : (rf rs)[i]? = some (V.ref r) := by
  rw [List.getElem?_map, h]
  rfl

theorem rf_inv {rs : List Addr} {i : Nat} {v : V} (h : (rf rs)[i]? = some v) : ∃ r, rs[i]? = some r ∧ v = .ref r := by
  rw [List.getElem?_map] at h
  cases e : rs[i]? with
  | none => rw [e] at h; cases h
  | some r => rw [e] at h; exact ⟨r, rfl, (Option.some.inj h).symm⟩

theorem iv_inv {m : List Int} {i : Nat} {v : V} (h : (iv m)[i]? = some v) : ∃ x, m[i]? = some x ∧ v = .int x := by
  rw [List.getElem?_map] at h
  cases e : m[i]? with
  | none => rw [e] at h; cases h
  | some r => rw [e] at h; exact ⟨r, rfl, (Option.some.inj h).symm⟩

theorem get_lt {α : Type} {l : List α} {i : Nat} {x : α} (h : l[i]? = some x) : i < l.length := (List.getElem?_eq_some_iff.mp h).1

theorem get_of {α : Type} {l : List α} {i : Nat} (h : i < l.length) : ∃ x, l[i]? = some x := ⟨l[i], List.getElem?_eq_getElem h⟩

/-- a list of ints that is being made at D -/
structure Mk (H : Hp) (D : Addr) (g : List Int) (i : Nat) (H' : Hp) : Prop where
  same : Same H H'
  at_ : H' D = some (.lst (iv (g.take i)))

theorem Mk.start {H : Hp} {D : Addr} {g : List Int} (h : H D = none) : Mk H D g 0 (upd H D (.lst [])) := ⟨same_new h, upd_same⟩

theorem Mk.step {H H' H2 : Hp} {D : Addr} {g : List Int} {i : Nat} {y : Int} (m : Mk H D g i H') (hD : H D = none) (s : Same H' H2) (e : g[i]? = some y) (hl : g.length ≤ 1000) :
    ∃ acc, H2 D = some (.lst acc) ∧ acc.length < sizeLine ∧ Mk H D g (i + 1) (upd H2 D (.lst (acc ++ [.int y]))) := by
  refine ⟨_, s _ _ m.at_, ?_, same_upd hD (m.same.trans s), ?_⟩
  · rw [List.length_map, List.length_take]
    exact small1000 (by omega)
  · rw [upd_same, List.take_add_one, e]
    simp

theorem Mk.done {H H' : Hp} {D : Addr} {g : List Int} {n : Nat} (m : Mk H D g n H') (h : n = g.length) : IL H' D g := by
  have := m.at_
  rw [h, List.take_length] at this
  exact this

/-- a list of rows that is being made at D: each row is new, or stands at the same place of rs -/
structure Mt (H : Hp) (D : Addr) (rs : List Addr) (G : List Row) (i : Nat) (H' : Hp) (qs : List Addr) : Prop where
  same : Same H H'
  at_ : H' D = some (.lst (rf qs))
  len : qs.length = i
  row : ∀ (j : Nat) q g, qs[j]? = some q → G[j]? = some g → IL H' q g
  src : ∀ (j : Nat) q, qs[j]? = some q → rs[j]? = some q ∨ H q = none
  nD : D ∉ qs
  nd : rs.Nodup → qs.Nodup

theorem Mt.start {H : Hp} {D : Addr} {rs : List Addr} {G : List Row} (h : H D = none) : Mt H D rs G 0 (upd H D (.lst [])) [] := ⟨same_new h, upd_same, rfl, fun j q g hq => by simp at hq, fun j q hq => by simp at hq, by simp, fun _ => List.nodup_nil⟩

theorem nodup_snoc {α : Type} {l : List α} {x : α} (h : l.Nodup) (hx : x ∉ l) : (l ++ [x]).Nodup := by
  refine List.nodup_append.mpr ⟨h, by simp, fun a ha b hb e => ?_⟩
  rw [List.mem_singleton.mp hb] at e
  exact hx (e ▸ ha)

theorem Mt.step {H H' H2 : Hp} {D : Addr} {rs : List Addr} {G : List Row} {i : Nat} {qs : List Addr} {q : Addr} {g : Row} (m : Mt H D rs G i H' qs) (hD : H D = none) (tr : ∀ r ∈ rs, ∃ o, H r = some o) (s : Same H' H2) (e : G[i]? = some g) (hq : IL H2 q g) (sr : rs[i]? = some q ∨ H' q = none) (hl : G.length ≤ 1000) :
    ∃ acc, H2 D = some (.lst acc) ∧ acc.length < sizeLine ∧ Mt H D rs G (i + 1) (upd H2 D (.lst (acc ++ [.ref q]))) (qs ++ [q]) := by
  have hi := get_lt e
  have ne : q ≠ D := by
    rcases sr with h | h
    · obtain ⟨o, ho⟩ := tr q (List.mem_of_getElem? h)
      exact ne_of_none ho hD
    · exact fun z => by
        rw [z, m.at_] at h
        cases h
  refine ⟨_, s _ _ m.at_, ?_, same_upd hD (m.same.trans s), ?_, ?_, fun j r h hr hh => ?_, fun j r hr => ?_, ?_, fun nd => ?_⟩
  · rw [List.length_map, m.len]
    exact small1000 (by omega)
  · rw [upd_same]
    simp
  · rw [List.length_append, m.len]
    rfl
  · by_cases hj : j < i
    · rw [List.getElem?_append_left (by rw [m.len]; exact hj)] at hr
      have z := m.row j r h hr hh
      have nr : r ≠ D := fun z => m.nD (z ▸ List.mem_of_getElem? hr)
      show (upd H2 D _) r = _
      rw [upd_ne nr]
      exact s _ _ z
    · have hj2 := get_lt hr
      rw [List.length_append, m.len] at hj2
      have ej : j = i := by simp at hj2; omega
      subst ej
      rw [List.getElem?_append_right (by rw [m.len]; omega), m.len, Nat.sub_self] at hr
      cases Option.some.inj hr
      rw [e] at hh
      cases hh
      show (upd H2 D _) q = _
      rw [upd_ne ne]
      exact hq
  · by_cases hj : j < i
    · rw [List.getElem?_append_left (by rw [m.len]; exact hj)] at hr
      exact m.src j r hr
    · have hj2 := get_lt hr
      rw [List.length_append, m.len] at hj2
      have ej : j = i := by simp at hj2; omega
      subst ej
      rw [List.getElem?_append_right (by rw [m.len]; omega), m.len, Nat.sub_self] at hr
      cases Option.some.inj hr
      rcases sr with h | h
      · exact .inl h
      · exact .inr (same_none m.same h)
  · intro h
    rcases List.mem_append.mp h with h | h
    · exact m.nD h
    · exact ne (List.mem_singleton.mp h).symm
  · refine nodup_snoc (m.nd nd) fun hm => ?_
    obtain ⟨j, hj⟩ := List.getElem?_of_mem hm
    have jl := get_lt hj
    rw [m.len] at jl
    rcases sr with h | h
    · rcases m.src j q hj with h2 | h2
      · have := nd_ix nd h h2
        omega
      · obtain ⟨o, ho⟩ := tr q (List.mem_of_getElem? h)
        rw [ho] at h2
        cases h2
    · obtain ⟨w, hw⟩ := get_of (l := G) (i := j) (by omega)
      have z : H' q = _ := m.row j q w hj hw
      rw [h] at z
      cases z

theorem Mt.tab {H H' : Hp} {D : Addr} {rs : List Addr} {G : List Row} {n : Nat} {qs : List Addr} (m : Mt H D rs G n H' qs) (h : n = G.length) : Tab H' D qs G := ⟨m.at_, m.len.trans h, m.row⟩

/-- a while by a word over a number that falls -/
theorem wh {c : TT} {tb : TS} {D : Ends} {σ : L2.St} {H : Hp} (Pv : Nat → L2.St → Hp → Prop) (m0 : Nat) (h0 : Pv m0 σ H)
    (hs : ∀ m σ H, Pv m σ H → c σ H fun b H1 => if b = true then ∃ N : L2.St → Hp → Prop, (∀ σ' H', N σ' H' → ∃ m', m' < m ∧ Pv m' σ' H') ∧ tb { D with nx := N, ct := N, bk := D.nx } σ H1 else D.nx σ H1) : tWhile c tb D σ H := ⟨Pv, ⟨m0, h0⟩, hs⟩

/-- a comprehension's turn without a test -/
theorem t_yes {te : TE} {σ : L2.St} {H : Hp} {Y : V → Hp → Prop} {N : Hp → Prop} (h : te σ H Y) : tYes σ H (fun b H3 => if b = true then te σ H3 Y else N H3) := iteT (B := N H) h

theorem ixL {X : Cx} (K : PySem.W.Frag) (h : X.K = K := by rfl) : IxR X (rIxL K) := h ▸ ix_list

theorem piZ {X : Cx} (K : PySem.W.Frag) {e e2 : Expr} {ta : TA} {p pos tpos : Pos} {elts : List Expr} {kk : Nat} (h : X.K = K) (hg : Gl X "zip") (hm : X.mg "zip" = none) (ha : PA X [e, e2] ta)
    (hs : starEach [e, e2] X.env = (false, eval e X.env) :: starEach [e2] X.env := by rfl) (hpl : (backTo pos (starEach [e2] X.env)).any (·.1) = false := by rfl) :
    PI X (.Tuple elts kk tpos) (.Call (.Name "zip" p) [e, e2] [] pos) (iZip K ta) := h ▸ pi_zip hg hm ha hs hpl

theorem piL {X : Cx} (K : PySem.W.Frag) {tg l : Expr} {tl : TE} (h : X.K = K) (hl : PE X l tl) : PI X tg l (iList K tl) := h ▸ pi_list hl

/-- the scope of a comprehension, and the expression that a statement hands back or stores -/
def lcScope : Expr → Scope
  | .ListComp _ _ sc _ => sc
  | _ => { kind := .function, names := [], isGenerator := false, isCoroutine := false }

def stE : Stmt → Expr
  | .Return (some e) _ => e
  | .Assign _ e _ => e
  | _ => .Name "" ⟨0, 0, 0, 0⟩

def stN (b : List Stmt) (i : Nat) : Stmt := b.getD i (.Pass ⟨0, 0, 0, 0⟩)

theorem tab_tracked {H : Hp} {a : Addr} {rs : List Addr} {M : List Row} (t : Tab H a rs M) : ∀ r ∈ rs, ∃ o, H r = some o := fun r hr => by
  obtain ⟨i, hi⟩ := List.getElem?_of_mem hr
  obtain ⟨m, hm⟩ := get_of (l := M) (i := i) (by have := get_lt hi; have := t.len; omega)
  exact ⟨_, t.row i r m hi hm⟩

/-- rests of one length -/
abbrev Wfs (p : Int) (n : Nat) (M : List Row) : Prop := ∀ m ∈ M, Wf p n m

theorem clearM_get {p : Int} {pl : Nat} {bm : Row} {M : List Row} {i : Nat} {m : Row} (h : M[i]? = some m) : (clearM p pl bm M)[i]? = some (lessR p m (ent m pl) bm) := by
  unfold clearM
  rw [List.getElem?_map, h]
  rfl

theorem lessR_get {p c x y : Int} {m bm : Row} {i : Nat} (h : m[i]? = some x) (h2 : bm[i]? = some y) : (lessR p m c bm)[i]? = some ((x - c * y) % p) := by
  unfold lessR
  rw [List.getElem?_zipWith, h, h2]

theorem clearM_len {p : Int} {pl : Nat} {b : Row} {M : List Row} : (clearM p pl b M).length = M.length := by
  unfold clearM
  rw [List.length_map]

theorem runM_len {p : Int} {inv : Int → Int} {rows : List Row} : ∀ k, (runM p inv rows k).1.length ≤ k ∧ (runM p inv rows k).2.length ≤ rows.length
  | 0 => ⟨Nat.le_refl _, Nat.le_refl _⟩
  | k + 1 => by
    have ih := runM_len (p := p) (inv := inv) (rows := rows) k
    show (stepM p inv k (runM p inv rows k)).1.length ≤ k + 1 ∧ (stepM p inv k (runM p inv rows k)).2.length ≤ rows.length
    unfold stepM
    split
    · exact ⟨by omega, ih.2⟩
    · refine ⟨?_, ?_⟩
      · show (clearM _ _ _ _ ++ [_]).length ≤ k + 1
        rw [List.length_append, clearM_len, List.length_singleton]
        omega
      · show (clearM _ _ _ _).length ≤ _
        rw [clearM_len]
        have := List.length_eraseIdx_le (runM p inv rows k).2 (by assumption)
        omega

theorem pick_is {pl j : Nat} {L : List Row} (hj : j < L.length) (h : ∀ i, i < j → ent (L.getD i []) pl = 0) (h2 : ent (L.getD j []) pl ≠ 0) : pick pl L = some j := by
  unfold pick
  refine List.findIdx?_eq_some_iff_getElem.mpr ⟨hj, ?_, fun i hi => ?_⟩
  · rw [getD_el L [] hj] at h2
    simpa using h2
  · have := h i hi
    rw [getD_el L [] (by omega)] at this
    simpa using this

theorem pick_non {pl : Nat} {L : List Row} (h : ∀ i, i < L.length → ent (L.getD i []) pl = 0) : pick pl L = none := by
  unfold pick
  refine List.findIdx?_eq_none_iff.mpr fun r hr => ?_
  obtain ⟨i, hi, rfl⟩ := List.getElem_of_mem hr
  have := h i hi
  rw [getD_el L [] hi] at this
  simpa using this

theorem getD_of {α : Type} {l : List α} {d x : α} {i : Nat} (h : l[i]? = some x) : l.getD i d = x := by
  rw [List.getD_eq_getElem?_getD, h]
  rfl

theorem rf_ne {H : Hp} {a r x : Addr} {rs : List Addr} {m : List Int} (h : H a = some (.lst (rf (x :: rs)))) (h2 : IL H r m) : r ≠ a := fun e => by
  rw [e, IL, h] at h2
  have z : rf (x :: rs) = iv m := HO.lst.inj (Option.some.inj h2)
  cases m with
  | nil => cases z
  | cons y m => exact V.noConfusion (List.cons.inj z).1

theorem Tab.upd {H : Hp} {a q : Addr} {o : HO} {rs : List Addr} {M : List Row} (t : Tab H a rs M) (h : a ≠ q) (h2 : ∀ r ∈ rs, r ≠ q) : Tab (upd H q o) a rs M :=
  ⟨by rw [upd_ne h]; exact t.at_, t.len, fun i r m hr hm => by
    show (L2.upd H q o) r = _
    rw [upd_ne (h2 r (List.mem_of_getElem? hr))]
    exact t.row i r m hr hm⟩

theorem seqIx {j n : Nat} (h : j < n) : seqIndex? (j : Int) n = some j := by
  unfold seqIndex?
  simp
  omega

theorem map_erase {α β : Type} {f : α → β} : ∀ (l : List α) (j : Nat), (l.map f).eraseIdx j = (l.eraseIdx j).map f
  | [], j => by simp
  | a :: l, 0 => rfl
  | a :: l, j + 1 => by
    show f a :: (l.map f).eraseIdx j = f a :: (l.eraseIdx j).map f
    rw [map_erase l j]

theorem Tab.erase {H : Hp} {a : Addr} {rs : List Addr} {M : List Row} {j : Nat} (t : Tab H a rs M) (hj : j < rs.length) : Tab (L2.upd H a (.lst ((rf rs).eraseIdx j))) a (rs.eraseIdx j) (M.eraseIdx j) := by
  have hne : ∀ r ∈ rs, r ≠ a := fun r hr => by
    obtain ⟨i, hi⟩ := List.getElem?_of_mem hr
    obtain ⟨m, hm⟩ := get_of (l := M) (i := i) (by have := get_lt hi; have := t.len; omega)
    have z := t.at_
    cases rs with
    | nil => simp at hr
    | cons x rs => exact rf_ne z (t.row i r m hi hm)
  refine ⟨?_, ?_, fun i r m hr hm => ?_⟩
  · rw [upd_same]
    show some (HO.lst ((rs.map V.ref).eraseIdx j)) = some (HO.lst ((rs.eraseIdx j).map V.ref))
    rw [map_erase]
  · rw [List.length_eraseIdx, List.length_eraseIdx, t.len]
  · show (L2.upd H a _) r = _
    rw [upd_ne (hne r (List.mem_of_mem_eraseIdx (List.mem_of_getElem? hr)))]
    rw [List.getElem?_eraseIdx] at hr hm
    by_cases h : i < j
    · rw [if_pos h] at hr hm
      exact t.row i r m hr hm
    · rw [if_neg h] at hr hm
      exact t.row (i + 1) r m hr hm

structure LowI (H H' : Hp) (fa la : Addr) (fs ls : List Addr) (F L : List Row) : Prop where
  same : Same H H'
  tf : Tab H' fa fs F
  tl : Tab H' la ls L
  nf : H fa = none
  nl : H la = none
  ne : fa ≠ la
  fresh : ∀ r ∈ fs, H r = none
  nd : fs.Nodup

theorem IL.ref {H : Hp} {a : Addr} {rs : List Addr} {M : List Row} (t : Tab H a rs M) {r : Addr} (h : r ∈ rs) : ∃ m, m ∈ M ∧ IL H r m := by
  obtain ⟨i, hi⟩ := List.getElem?_of_mem h
  obtain ⟨m, hm⟩ := get_of (l := M) (i := i) (by have := get_lt hi; have := t.len; omega)
  exact ⟨m, List.mem_of_getElem? hm, t.row i r m hi hm⟩

theorem step_name {i : Nat} {v : V} {σ : L2.St} {H : Hp} {Q : L2.St → Hp → Prop} (h : Q (σ.set i (some v)) H) : gName i v σ H Q := h

theorem step_seq {t u : TS} {D : Ends} {σ : L2.St} {H : Hp} (h : t { D with nx := u D } σ H) : tSeq t u D σ H := h

theorem step_asgC {v : V} {i : Nat} {D : Ends} {σ : L2.St} {H : Hp} (h : D.nx (σ.set i (some v)) H) : tAsg (tC v) (gName i) D σ H := h

/-- a rule's reading by a stronger one -/
theorem pe_imp {X : Cx} {e : Expr} {t : TE} (t' : TE) (h : PE X e t) (imp : ∀ σ H Q, t' σ H Q → t σ H Q) : PE X e t' := ⟨fun pins s σ H Q I q => h.run pins s σ H Q I (imp σ H Q q)⟩

theorem pt_imp {X : Cx} {e : Expr} {t : TT} (t' : TT) (h : PT X e t) (imp : ∀ σ H Q, t' σ H Q → t σ H Q) : PT X e t' := ⟨fun pins s σ H Q I q => h.run pins s σ H Q I (imp σ H Q q)⟩

theorem cLst {X : Cx} (K : PySem.W.Frag) (h : X.K = K) : CallR X (.type "list") (fun xs H Q => ∃ p ys, xs = [.ref p] ∧ (SqL K H p ys ∨ SqT K H p ys) ∧ ∀ l, H l = none → Q (.ref l) (L2.upd H l (.lst ys))) := h ▸ call_list_of

theorem cLen {X : Cx} (K : PySem.W.Frag) (h : X.K = K) : CallR X (.builtin "len") (fun xs H Q => ∃ p ys, xs = [.ref p] ∧ (SqL K H p ys ∨ SqT K H p ys) ∧ Q (.int ys.length) H) := h ▸ call_len_seq

/-- a drawer's bag, asked so often at most -/
def Bg (H : Hp) (a : Addr) (c : Nat) : Prop := ∃ x y : Int, H a = some (.lst [.int x, .int y]) ∧ 0 ≤ x ∧ 0 ≤ y ∧ y ≤ c ∧ (y = 0 ∨ x < 2147483647)

theorem Bg.mono {H : Hp} {a : Addr} {c d : Nat} (b : Bg H a c) (h : c ≤ d) : Bg H a d := by
  obtain ⟨x, y, h1, h2, h3, h4, h5⟩ := b
  exact ⟨x, y, h1, h2, h3, by omega, h5⟩

theorem Bg.same {H H' : Hp} {a : Addr} {c : Nat} (b : Bg H a c) (s : H' a = H a) : Bg H' a c := by
  obtain ⟨x, y, h1, h2⟩ := b
  exact ⟨x, y, s.trans h1, h2⟩

theorem Bg.ne {H : Hp} {a q : Addr} {c : Nat} (b : Bg H a c) (h : H q = none) : q ≠ a := by
  obtain ⟨x, y, h1, _⟩ := b
  exact fun e => by rw [e, h1] at h; cases h

/-- all but what stands at b is as it was -/
def Off (b : Addr) (H H' : Hp) : Prop := ∀ q o, q ≠ b → H q = some o → H' q = some o

theorem Off.refl (b : Addr) (H : Hp) : Off b H H := fun _ _ _ h => h

theorem Off.trans {b : Addr} {H H1 H2 : Hp} (x : Off b H H1) (y : Off b H1 H2) : Off b H H2 := fun q o n h => y q o n (x q o n h)

theorem Off.of {b : Addr} {H H' : Hp} (s : Same H H') : Off b H H' := fun q o _ h => s q o h

theorem Off.free {b q : Addr} {H H' : Hp} (x : Off b H H') (h : H' q = none) (n : q ≠ b) : H q = none := by
  cases e : H q with
  | none => rfl
  | some o =>
    rw [x q o n e] at h
    cases h

theorem Off.new {b q : Addr} {o : HO} {H H' : Hp} (x : Off b H H') (h : H q = none) : Off b H (upd H' q o) := fun r u n e => by
  rw [upd_ne (ne_of_none e h)]
  exact x r u n e

theorem Tab.push {H : Hp} {l q : Addr} {rs : List Addr} {M : List Row} {m : Row} (t : Tab H l rs M) (h : IL H q m) (n : q ≠ l) : Tab (L2.upd H l (.lst (rf rs ++ [.ref q]))) l (rs ++ [q]) (M ++ [m]) := by
  have hne : ∀ r ∈ rs, r ≠ l := fun r hr => by
    obtain ⟨m, _, hm⟩ := IL.ref t hr
    have z := t.at_
    cases rs with
    | nil => simp at hr
    | cons x rs => exact rf_ne z hm
  refine ⟨by rw [upd_same]; simp, by rw [List.length_append, List.length_append, t.len]; rfl, fun i r u hr hu => ?_⟩
  show (L2.upd H l _) r = _
  by_cases hi : i < rs.length
  · rw [List.getElem?_append_left hi] at hr
    rw [List.getElem?_append_left (by have := t.len; omega)] at hu
    rw [upd_ne (hne r (List.mem_of_getElem? hr))]
    exact t.row i r u hr hu
  · have h2 := get_lt hr
    rw [List.length_append, List.length_singleton] at h2
    have e : i = rs.length := by omega
    rw [List.getElem?_append_right (by omega), e, Nat.sub_self] at hr
    rw [List.getElem?_append_right (by have := t.len; omega), e, t.len, Nat.sub_self] at hu
    cases Option.some.inj hr
    cases Option.some.inj hu
    rw [upd_ne n]
    exact h

theorem Tab.off {b : Addr} {H H' : Hp} {a : Addr} {rs : List Addr} {M : List Row} (t : Tab H a rs M) (o : Off b H H') (n : a ≠ b) (n2 : ∀ r ∈ rs, r ≠ b) : Tab H' a rs M := ⟨o _ _ n t.at_, t.len, fun i r m hr hm => o _ _ (n2 r (List.mem_of_getElem? hr)) (t.row i r m hr hm)⟩

theorem mixR_get {p c x y : Int} {m bm : Row} {i : Nat} (h : m[i]? = some x) (h2 : bm[i]? = some y) : (mixR p c m bm)[i]? = some ((x + c * y) % p) := by
  unfold mixR
  rw [List.getElem?_zipWith, h, h2]

theorem mixR_wf {p c : Int} {n : Nat} {one other : Row} (hp : 0 < p) (h : Wf p n one) (h2 : Wf p n other) : Wf p n (mixR p c one other) := by
  have len : (mixR p c one other).length = n := by
    unfold mixR
    rw [List.length_zipWith, h.len, h2.len, Nat.min_self]
  refine ⟨len, fun x hx => ?_⟩
  obtain ⟨j, hj⟩ := List.getElem?_of_mem hx
  obtain ⟨a, ha⟩ := get_of (l := one) (i := j) (by have := get_lt hj; have := h.len; omega)
  obtain ⟨b, hb⟩ := get_of (l := other) (i := j) (by have := get_lt hj; have := h2.len; omega)
  rw [mixR_get ha hb] at hj
  rw [← Option.some.inj hj]
  exact ⟨Int.emod_nonneg _ (by omega), Int.emod_lt_of_pos _ hp⟩

theorem upd_upd {H : Hp} {a : Addr} {o u : HO} : upd (upd H a o) a u = upd H a u := by
  funext q
  by_cases h : q = a
  · rw [h, upd_same, upd_same]
  · rw [upd_ne h, upd_ne h, upd_ne h]

structure RowI (p : Int) (n : Nat) (b : Addr) (c : Nat) (H : Hp) (l : Addr) (rs : List Addr) (M : List Row) (H' : Hp) : Prop where
  off : Off b H H'
  tab : Tab H' l rs M
  wf : Wfs p n M
  fresh : ∀ r ∈ rs, H r = none
  bag : Bg H' b c

theorem runM_stop {p : Int} {inv : Int → Int} {rows : List Row} {k : Nat} (h : (runM p inv rows k).2 = []) : ∀ d, runM p inv rows (k + d) = runM p inv rows k
  | 0 => rfl
  | d + 1 => by
    show stepM p inv (k + d) (runM p inv rows (k + d)) = _
    rw [runM_stop h d]
    unfold stepM
    rw [h]
    rfl

def nzs (pl : Nat) (L : List Row) (i : Nat) : List Nat := (List.range i).filter fun k => decide (ent (L.getD k []) pl ≠ 0)

theorem nzs_succ {pl i : Nat} {L : List Row} : nzs pl L (i + 1) = nzs pl L i ++ (if ent (L.getD i []) pl ≠ 0 then [i] else []) := by
  unfold nzs
  rw [List.range_succ, List.filter_append]
  congr 1
  by_cases h : ent (L.getD i []) pl ≠ 0
  · rw [if_pos h, List.filter_cons_of_pos (by simpa using h)]
    rfl
  · rw [if_neg h, List.filter_cons_of_neg (by simpa using h)]
    rfl

theorem nzs_len {pl i : Nat} {L : List Row} : (nzs pl L i).length ≤ i := by
  have := List.length_filter_le (fun k => decide (ent (L.getD k []) pl ≠ 0)) (List.range i)
  rw [List.length_range] at this
  exact this

theorem pick_nil {pl : Nat} {L : List Row} (h : nzs pl L L.length = []) : pick pl L = none := pick_non fun i hi => by
  have := (List.filter_eq_nil_iff.mp h) i (List.mem_range.mpr hi)
  simpa using this

theorem pick_cons {pl j : Nat} {t : List Nat} {L : List Row} (h : nzs pl L L.length = j :: t) : j < L.length ∧ ent (L.getD j []) pl ≠ 0 ∧ pick pl L = some j := by
  have mj : j ∈ nzs pl L L.length := by rw [h]; exact List.mem_cons_self
  have mj2 := List.mem_filter.mp mj
  have hj := List.mem_range.mp mj2.1
  have nj : ent (L.getD j []) pl ≠ 0 := by simpa using mj2.2
  refine ⟨hj, nj, pick_is hj (fun i hi => ?_) nj⟩
  refine Classical.byContradiction fun c => ?_
  have mi : i ∈ nzs pl L L.length := List.mem_filter.mpr ⟨List.mem_range.mpr (by omega), by simpa using c⟩
  have pw : (nzs pl L L.length).Pairwise (· < ·) := List.Pairwise.filter _ List.pairwise_lt_range
  rw [h] at mi pw
  rcases List.mem_cons.mp mi with e | e
  · omega
  · have := (List.pairwise_cons.mp pw).1 i e
    omega

structure FormI (H H' : Hp) (fa la : Addr) (fs ls : List Addr) (F L : List Row) : Prop where
  same : Same H H'
  tf : Tab H' fa fs F
  tl : Tab H' la ls L
  nf : H fa = none
  nl : H la = none
  ne : fa ≠ la
  fresh : ∀ r ∈ fs, H r = none

def dRow (m : Row) : PyData := .list (m.map PyData.int)

def dTab (M : List Row) : PyData := .list (M.map dRow)

theorem dInts_lay : ∀ m : List Int, PyData.canLayAll0 (m.map PyData.int) = true
  | [] => rfl
  | x :: m => by
    show (PyData.canLay0 (.int x) && PyData.canLayAll0 (m.map PyData.int)) = true
    rw [dInts_lay m]
    rfl

theorem dInts_depth : ∀ m : List Int, PyData.depthAll (m.map PyData.int) = 0
  | [] => rfl
  | x :: m => by
    show max (PyData.depth (.int x)) (PyData.depthAll (m.map PyData.int)) = 0
    rw [dInts_depth m]
    rfl

theorem dRow_lay (m : Row) : (dRow m).canLay0 = true := dInts_lay m

theorem dRows_lay : ∀ M : List Row, PyData.canLayAll0 (M.map dRow) = true
  | [] => rfl
  | m :: M => by
    show (PyData.canLay0 (dRow m) && PyData.canLayAll0 (M.map dRow)) = true
    rw [dRows_lay M, dRow_lay m]
    rfl

theorem dRow_depth (m : Row) : (dRow m).depth = 1 := by
  show PyData.depthAll (m.map PyData.int) + 1 = 1
  rw [dInts_depth]

theorem dRows_depth : ∀ M : List Row, PyData.depthAll (M.map dRow) ≤ 1
  | [] => Nat.zero_le _
  | m :: M => by
    show max (PyData.depth (dRow m)) (PyData.depthAll (M.map dRow)) ≤ 1
    have := dRows_depth M
    have := dRow_depth m
    omega

theorem dRow_shaped (m : Row) : SeqAt.shaped (dRow m) = true := by
  show ((dRow m).canLay0 && decide ((dRow m).depth ≤ 64)) = true
  rw [dRow_lay, dRow_depth]
  rfl

theorem dTab_shaped (M : List Row) : SeqAt.shaped (dTab M) = true := by
  have h : (dTab M).depth ≤ 64 := by
    show PyData.depthAll (M.map dRow) + 1 ≤ 64
    have := dRows_depth M
    omega
  show ((dTab M).canLay0 && decide ((dTab M).depth ≤ 64)) = true
  rw [decide_eq_true h, show (dTab M).canLay0 = true from dRows_lay M]
  rfl

theorem dTab_eq (M : List Row) : PyData.eqv (dTab M) (dTab M) = true := SeqAt.eqv_refl _ (dRows_lay M)

theorem dRow_eq (m : Row) : PyData.eqv (dRow m) (dRow m) = true := SeqAt.eqv_refl _ (dRow_lay m)

theorem dpInts {K : PySem.W.Frag} {H : Hp} : ∀ m : List Int, DpAll K H (iv m) (m.map PyData.int)
  | [] => .nil
  | x :: m => .cons (.int x) (dpInts m)

theorem IL.dp {K : PySem.W.Frag} {H : Hp} {a : Addr} {m : Row} (h : IL H a m) : Dp K H (.ref a) (dRow m) := .lst (IL.sq h) (dpInts m)

theorem dpRows {K : PySem.W.Frag} {H : Hp} : ∀ (rs : List Addr) (M : List Row), rs.length = M.length → (∀ (i : Nat) r m, rs[i]? = some r → M[i]? = some m → IL H r m) → DpAll K H (rf rs) (M.map dRow)
  | [], [], _, _ => .nil
  | [], _ :: _, h, _ => by simp at h
  | _ :: _, [], h, _ => by simp at h
  | r :: rs, m :: M, h, hr => .cons (IL.dp (hr 0 r m rfl rfl)) (dpRows rs M (by simpa using h) fun i x y hx hy => hr (i + 1) x y hx hy)

theorem Tab.dp {K : PySem.W.Frag} {H : Hp} {a : Addr} {rs : List Addr} {M : List Row} (t : Tab H a rs M) : Dp K H (.ref a) (dTab M) := .lst (SqL.of t.at_) (dpRows rs M t.len t.row)

theorem Tab.rev {H : Hp} {a q : Addr} {rs : List Addr} {M : List Row} (t : Tab H a rs M) (h : H q = some (.lst (rf rs).reverse)) : Tab H q rs.reverse M.reverse := by
  refine ⟨by rw [h]; simp, by rw [List.length_reverse, List.length_reverse, t.len], fun i r m hr hm => ?_⟩
  have i1 := get_lt hr
  rw [List.length_reverse] at i1
  rw [List.getElem?_reverse i1] at hr
  rw [List.getElem?_reverse (by have := t.len; omega)] at hm
  rw [t.len] at hr
  exact t.row _ r m hr hm

/-- all but what stands at these places is as it was -/
def OffS (S : List Addr) (H H' : Hp) : Prop := ∀ b o, b ∉ S → H b = some o → H' b = some o

theorem Tab.offS {S : List Addr} {H H' : Hp} {a : Addr} {rs : List Addr} {M : List Row} (t : Tab H a rs M) (o : OffS S H H') (h : a ∉ S) (h2 : ∀ r ∈ rs, r ∉ S) : Tab H' a rs M :=
  ⟨o _ _ h t.at_, t.len, fun i r m hr hm => o _ _ (h2 r (List.mem_of_getElem? hr)) (t.row i r m hr hm)⟩

theorem cIsi {X : Cx} (K : PySem.W.Frag) (h : X.K = K) : CallR X (.builtin "isinstance") (rIsi K) := h ▸ call_isi

theorem cAll {X : Cx} (K : PySem.W.Frag) (h : X.K = K) (hc : X.calm = true) : CallR X (.builtin "all") (rAll K) := h ▸ cr_all hc

theorem Tab.fresh_off {H : Hp} {a b : Addr} {rs qs : List Addr} {M : List Row} (t : Tab H a rs M) (h : H b = none) (h2 : ∀ q ∈ qs, H q = none) : a ∉ b :: qs ∧ ∀ r ∈ rs, r ∉ b :: qs := by
  have key : ∀ r o, H r = some o → r ∉ b :: qs := fun r o e m => by
    rcases List.mem_cons.mp m with z | z
    · rw [z, h] at e
      cases e
    · rw [h2 r z] at e
      cases e
  refine ⟨key a _ t.at_, fun r hr => ?_⟩
  obtain ⟨m, _, hm⟩ := IL.ref t hr
  exact key r _ hm
end

section
variable {P : Program} {w : World} {K : PySem.W.Frag} {mg : Str → Option Value} {base : Heap}
theorem cSum {X : Cx} (K : PySem.W.Frag) (h : X.K = K) (hc : X.calm = true) : CallR X (.builtin "sum") (rSum K) := h ▸ cr_sum hc
theorem plain_ints : ∀ m : List Int, PyData.plainAll (m.map PyData.int) = true
  | [] => rfl
  | x :: m => by
    show (PyData.plain (.int x) && PyData.plainAll (m.map PyData.int)) = true
    rw [plain_ints m]
    rfl
/-- any(list of ints) -/
theorem cAnyI {X : Cx} (hc : X.calm = true) : CallR X (.builtin "any") (fun xs H Q => ∃ (a : Addr) (m : List Int), xs = [.ref a] ∧ IL H a m ∧ Q (.bl (m.any fun x => x != 0)) H) := by
  intro pins s σ H vs us Q I r h
  obtain ⟨a, m, rfl, hm, q⟩ := h
  obtain ⟨its, rv, hl, _⟩ := I.list (IL.sq (K := X.K) hm)
  obtain ⟨as, hr⟩ := Dp.readsAll I _ _ its (dpInts m) rv
  rw [Vals.ref1 r]
  refine PySem.W.any_list_data (I.ok.hd hc) hl.isList (by simpa using hr) (plain_ints m) (fun x hx => ?_) fun h' tk hk => ⟨.bl _, H, I.kept fun b o eo => hk b o eo, ?_, q⟩
  · obtain ⟨y, _, rfl⟩ := List.mem_map.mp hx
    trivial
  · show Value.bool _ = Value.bool _
    rw [List.any_map]
    rfl
theorem eqvAll_ints : ∀ a b : List Int, PyData.eqvAll (a.map PyData.int) (b.map PyData.int) = decide (a = b)
  | [], [] => rfl
  | [], y :: b => by
    rw [decide_eq_false (by simp)]
    rfl
  | x :: a, [] => by
    rw [decide_eq_false (by simp)]
    rfl
  | x :: a, y :: b => by
    show (PyData.eqv (.int x) (.int y) && PyData.eqvAll (a.map PyData.int) (b.map PyData.int)) = _
    rw [eqvAll_ints a b, show PyData.eqv (.int x) (.int y) = decide (x = y) from by simp [PyData.eqv]; rfl]
    by_cases h : x = y
    · by_cases h2 : a = b
      · simp [h, h2]
      · simp [h, h2]
    · simp [h]
theorem dRow_eqv (a b : Row) : PyData.eqv (dRow a) (dRow b) = decide (a = b) := by
  show PyData.eqv (.list _) (.list _) = _
  rw [PyData.eqv]
  exact eqvAll_ints a b
theorem rep_zeros (n : Nat) : (List.replicate (n : Int).toNat [V.int 0]).flatten = iv (zeros n) := by
  rw [Int.toNat_natCast]
  unfold zeros
  induction n with
  | zero => rfl
  | succ n ih =>
    rw [List.replicate_succ, List.flatten_cons, ih, List.replicate_succ]
    rfl
theorem all_flat (m : List Int) : (iv m).all flatV = true := List.all_eq_true.mpr fun v hv => by
  obtain ⟨x, _, rfl⟩ := List.mem_map.mp hv
  rfl
theorem low_ne {p : Int} {n : Nat} {F : List Row} {ls : List Nat} (L : Low p n F ls) {i : Nat} {r : Row} (h : F[i]? = some r) : ∃ l, ls[i]? = some l ∧ l < n ∧ (∀ j, j < l → ent r j = 0) ∧ ent r l = 1 := by
  obtain ⟨l, hl⟩ := get_of (l := ls) (i := i) (by have := get_lt h; have := L.dl.1; omega)
  refine ⟨l, hl, L.lt l (List.mem_of_getElem? hl), L.zb i r l h hl, ?_⟩
  rw [L.dl.2 i i r l h hl, if_pos rfl]
end

def lsI (ls : List Nat) : List Int := ls.map fun (l : Nat) => Int.ofNat l
theorem lsI_get {ls : List Nat} {i l : Nat} (h : ls[i]? = some l) : (lsI ls)[i]? = some (l : Int) := by
  unfold lsI
  rw [List.getElem?_map, h]
  rfl
theorem lsI_len (ls : List Nat) : (lsI ls).length = ls.length := List.length_map _
theorem inV_int (x : Int) : ∀ m : List Int, inV (.int x) (iv m) = decide (x ∈ m)
  | [] => rfl
  | y :: m => by
    show (eqV (.int y) (.int x) || inV (.int x) (iv m)) = _
    rw [inV_int x m, show eqV (.int y) (.int x) = (y == x) from rfl]
    by_cases h : x = y
    · subst h
      simp
    · have h2 : (y == x) = false := by simpa using fun e => h e.symm
      rw [h2]
      simp [h]
theorem lsI_mem {ls : List Nat} {i : Nat} : (i : Int) ∈ lsI ls ↔ i ∈ ls := by
  unfold lsI
  rw [List.mem_map]
  constructor
  · rintro ⟨l, hl, e⟩
    have : l = i := Int.ofNat.inj e
    exact this ▸ hl
  · intro h
    exact ⟨i, h, rfl⟩
theorem outs_succ {ls : List Nat} {i : Nat} : outs (i + 1) ls = outs i ls ++ (if i ∈ ls then [] else [i]) := by
  unfold outs
  rw [List.range_succ, List.filter_append]
  congr 1
  by_cases h : i ∈ ls
  · rw [if_pos h, List.filter_cons_of_neg (by simpa using h)]
    rfl
  · rw [if_neg h, List.filter_cons_of_pos (by simpa using h)]
    rfl
theorem drop_get {α : Type} {l : List α} {i : Nat} {x : α} (h : l[i]? = some x) : l.drop i = x :: l.drop (i + 1) := by
  rw [List.drop_eq_getElem_cons (get_lt h), show l[i]'(get_lt h) = x from Option.some.inj ((List.getElem?_eq_getElem (get_lt h)).symm.trans h)]
theorem ix_set {n : Nat} {i : Nat} (h : i < n) : ixN n (i : Int) = some i := by
  unfold ixN
  rw [if_pos (by omega), if_pos (by omega)]
  rfl
theorem IL.set {H : Hp} {z : Addr} {m : Row} {i : Nat} {x : Int} : IL (L2.upd H z (.lst ((iv m).set i (.int x)))) z (m.set i x) := by
  show (L2.upd H z _) z = _
  rw [upd_same]
  show some (HO.lst ((m.map V.int).set i (V.int x))) = some (HO.lst ((m.set i x).map V.int))
  rw [List.map_set]
def unitR (n i : Nat) : Row := (List.range n).map fun j => if i = j then 1 else 0
def idM (n : Nat) : List Row := (List.range n).map (unitR n)
theorem unitR_len {n i : Nat} : (unitR n i).length = n := by
  unfold unitR
  rw [List.length_map, List.length_range]
theorem unitR_get {n i j : Nat} (h : j < n) : (unitR n i)[j]? = some (if i = j then 1 else 0) := by
  unfold unitR
  rw [List.getElem?_map, List.getElem?_range h]
  rfl
theorem unitR_ent {n i j : Nat} (h : j < n) : ent (unitR n i) j = if i = j then 1 else 0 := by
  have a := ent_some (r := unitR n i) (j := j) (by rw [unitR_len]; exact h)
  rw [unitR_get h] at a
  exact (Option.some.inj a).symm
theorem unitR_wf {p : Int} (hp : 2 ≤ p) {n i : Nat} : Wf p n (unitR n i) := ⟨unitR_len, fun x hx => by
  obtain ⟨j, _, rfl⟩ := List.mem_map.mp hx
  split <;> omega⟩
theorem idM_get {n i : Nat} (h : i < n) : (idM n)[i]? = some (unitR n i) := by
  unfold idM
  rw [List.getElem?_map, List.getElem?_range h]
  rfl
theorem idM_len {n : Nat} : (idM n).length = n := by
  unfold idM
  rw [List.length_map, List.length_range]
theorem range_get {n i l : Nat} (h : (List.range n)[i]? = some l) : i < n ∧ l = i := by
  have h1 := get_lt h
  rw [List.length_range] at h1
  rw [List.getElem?_range h1] at h
  exact ⟨h1, (Option.some.inj h).symm⟩
theorem idM_low {p : Int} (hp : 2 ≤ p) {n : Nat} : Low p n (idM n) (List.range n) := by
  refine ⟨fun r hr => ?_, ⟨by rw [List.length_range, idM_len], fun i k r l hi hk => ?_⟩, fun l hl => List.mem_range.mp hl, List.pairwise_lt_range, fun i r l hi hl m hm => ?_⟩
  · obtain ⟨i, _, rfl⟩ := List.mem_map.mp hr
    exact unitR_wf hp
  · obtain ⟨h1, rfl⟩ := range_get hk
    have h2 := get_lt hi
    rw [idM_len] at h2
    rw [idM_get h2] at hi
    rw [← Option.some.inj hi]
    exact unitR_ent h1
  · obtain ⟨h1, rfl⟩ := range_get hl
    rw [idM_get h1] at hi
    rw [← Option.some.inj hi, unitR_ent (by omega), if_neg (by omega)]
theorem nil_low {p : Int} {n : Nat} : Low p n [] [] := ⟨fun r hr => by simp at hr, ⟨rfl, fun i k r l hi _ => by simp at hi⟩, fun l hl => by simp at hl, List.Pairwise.nil, fun i r l hi _ => by simp at hi⟩
theorem cInt {X : Cx} : CallR X (.type "int") (fun xs H Q => ∃ k, xs = [.bl k] ∧ Q (.int (if k = true then 1 else 0)) H) := by
  intro pins s σ H xs us Q I r h
  exact call_int1 pins s σ H xs us Q I r (.inr h)
theorem top_bound (z : Int) (hz : 0 ≤ z) (t : Int) (ht : 3 ≤ t) : 0 ≤ (if (if t < z then t else z) > 3 then (if t < z then t else z) else 3) ∧ (if (if t < z then t else z) > 3 then (if t < z then t else z) else 3) ≤ t := by
  by_cases h : t < z
  · rw [if_pos h]
    by_cases h2 : t > 3
    · rw [if_pos h2]; omega
    · rw [if_neg h2]; omega
  · rw [if_neg h]
    by_cases h2 : z > 3
    · rw [if_pos h2]; omega
    · rw [if_neg h2]; omega

section
variable {P : Program} {w : World} {K : PySem.W.Frag} {mg : Str → Option Value} {base : Heap}
/-- a walk of a comprehension's clause, whatever a turn asks for its next one -/
theorem out_it {J : It} {n : Nat} {G : Hp → Prop} {Y : Nat → Hp → V → Hp → Prop} (w : Walk J n G Y) {g : TG} {σ : L2.St} {F : (Hp → Prop) → L2.St → Hp → Prop} {H0 : Hp} {Qd : Hp → Prop} (Pv : Nat → Hp → Prop) (h0 : Pv 0 H0) (hG : ∀ i H, i ≤ n → Pv i H → G H)
    (hs : ∀ i x H H', i < n → Pv i H → Y i H x H' → g x σ H' (F (Pv (i + 1)))) (hd : ∀ H, Pv n H → Qd H) :
    ∃ W : Nat → Nat → Hp → Prop, (∃ m, W 0 m H0) ∧ ∀ i m H, W i m H →
      (J.stop i H ∧ Qd H) ∨ (J.go i H ∧ ∃ Nx : Hp → Prop, (∀ H', Nx H' → ∃ m', m' < m ∧ W (i + 1) m' H') ∧ ∀ x H', J.yld i H x H' → g x σ H' (F Nx)) := by
  refine ⟨fun i m H => m = n - i ∧ i ≤ n ∧ Pv i H, ⟨n, by simp, Nat.zero_le _, h0⟩, ?_⟩
  rintro i m H ⟨rfl, hi, p⟩
  have q := hG i H hi p
  by_cases hlt : i < n
  · exact .inr ⟨w.goes i H hlt q, Pv (i + 1), fun H' p' => ⟨n - (i + 1), by omega, rfl, hlt, p'⟩, fun x H' y => hs i x H H' hlt p (w.yields i H x H' hlt q y)⟩
  · have e : i = n := by omega
    subst e
    exact .inl ⟨w.stops H q, hd H p⟩
/-- a clause's turn without a test -/
theorem c_yes {A N : Hp → Prop} {σ : L2.St} {H : Hp} (h : A H) : tYes σ H (fun b H3 => if b = true then A H3 else N H3) := iteT (B := N H) h
/-- a list of new rows that is being made at D -/
structure Mw (H : Hp) (D : Addr) (G : List Row) (H' : Hp) (qs : List Addr) : Prop where
  same : Same H H'
  tab : Tab H' D qs G
  fresh : ∀ q ∈ qs, H q = none
theorem Mw.start {H : Hp} {D : Addr} (h : H D = none) : Mw H D [] (upd H D (.lst [])) [] := ⟨same_new h, ⟨upd_same, rfl, fun i r m hr => by simp at hr⟩, fun q hq => by simp at hq⟩
theorem Mw.push {H H' H2 : Hp} {D q : Addr} {G : List Row} {qs : List Addr} {g : Row} (m : Mw H D G H' qs) (hD : H D = none) (s : Same H' H2) (nq : H' q = none) (hq : IL H2 q g) (hl : G.length ≤ 1000) :
    ∃ acc, H2 D = some (.lst acc) ∧ acc.length < sizeLine ∧ Mw H D (G ++ [g]) (upd H2 D (.lst (acc ++ [.ref q]))) (qs ++ [q]) := by
  have t2 := m.tab.same s
  have ne : q ≠ D := fun z => by
    rw [z] at nq
    exact absurd (nq.symm.trans m.tab.at_) (by simp)
  refine ⟨_, t2.at_, ?_, same_upd hD (m.same.trans s), t2.push hq ne, fun u hu => ?_⟩
  · rw [List.length_map, m.tab.len]
    exact small1000 hl
  · rcases List.mem_append.mp hu with h | h
    · exact m.fresh u h
    · rw [List.mem_singleton.mp h]
      exact same_none m.same nq
theorem cat_il {H : Hp} {v : Addr} {a b : Row} : IL (L2.upd H v (.lst (iv a ++ iv b))) v (a ++ b) := by
  show (L2.upd H v _) v = _
  rw [upd_same]
  simp
end

section
variable {P : Program} {w : World} {K : PySem.W.Frag} {mg : Str → Option Value} {base : Heap}
/-- a def's call at one place, by its body there -/
theorem run_at {name qual : Str} {params : Arguments} {body : List Stmt} {scope : Scope} {dV kV doc pm cdv ct oc : Value} {an od : Option Addr} {osl : Array (Option Value)} {N ps : List Str} {k : Nat} {f : Addr} {A : Around} {fr : List Env} {s : Shared} {H : Hp} {args : Args} {us : List Value} {vs : List V} {Q : VK} {E : XK} {t : TS}
    (known : K.lookup f = some ⟨oc, od, .func (PySem.W.fnOf name qual params body scope dV kV doc pm an cdv ct), osl⟩) (cod : PySem.W.codeIn K cdv qual = true) (sco : FnScope N ps scope) (room : Room (k + 1) A) (env0 : Env0 P w K mg base A fr s H)
    (bnd : BindsTo s (PySem.W.fnOf name qual params body scope dV kV doc pm an cdv ct) args (ps.zip us)) (vals : Vals vs us) (many : vs.length = ps.length)
    (walk : PSs (cxOf CX0 P w K mg base N qual scope f cdv A fr s H E) body t) (read : t { nx := fun _ H' => Q .non H', rt := Q } (start N vs) H) :
    codeAny (model P w) A (.call (.ref f) args) (CR CX0 fr P w H s Q E) s := by
  have stays : ∀ b o, base.get? b = some o → s.heap.get? b = some o := fun b o z => (env0.bs b o z).1
  have inside : K.In s.heap := env0.mod.kin.keeps stays
  have free : s.heap.NoLimit := env0.mod.nolimit.keeps stays
  refine codeAny_call_function room.depth (inside _ _ known) rfl sco.co sco.gen rfl (PySem.W.codeRec_of inside cod) (bnd _ _ _ _ (wpAny_newFunctionEnv_cells sco.kind ?_ ?_))
  · rintro ⟨x, u⟩ hx
    have hp := sco.par x (List.of_mem_zip hx).1
    rcases hp with hp | hp
    · exact Or.inl hp
    · exact Or.inr ⟨hp, PySem.W.cellsFrom_some _ _ _ (Or.inl hp)⟩
  · rintro env rfl st ic
    refine ⟨free.keeps ic.toInCall.keep, codeAny_func ?_⟩
    have inv := inv_start (CX := CX0) (P := P) (w := w) (E := E) sco room.hd env0 many vals ic
    refine wpAny_mono (walk.run [] st (start N vs) H _ inv read) ?_ ?_
    · intro flow st' out
      cases flow with
      | brk =>
        obtain ⟨_, _, _, z⟩ := out
        exact z.elim
      | cont =>
        obtain ⟨_, _, _, z⟩ := out
        exact z.elim
      | next =>
        obtain ⟨σ2, H2, inv2, z⟩ := out
        exact ⟨.non, H2, inv2.os, inv2.bare, inv2.base, inv2.hok, rfl, z⟩
      | ret u =>
        obtain ⟨v, σ2, H2, inv2, rel, z⟩ := out
        exact ⟨v, H2, inv2.os, inv2.bare, inv2.base, inv2.hok, rel, z⟩
    · intro e st' out
      exact out
/-- the script's own heap: nothing is tracked but it -/
noncomputable def scriptH (K : PySem.W.Frag) (a : Addr) (o : Obj) (xs : List V) : Hp := fun b => if b = a ∧ K.lookup a = none then some (.frz o (.lst xs)) else none
/-- the law's call, where nothing is being shown yet -/
theorem law_at {mb : Str → Option Value} {fa a : Addr} {st : Shared} {vs : List Value} {ns : List Int}
    (inside : K.In st.heap) (glob : st.heap.Ns mainGlobals mg) (bltn : st.heap.Ns builtinsNs mb) (boot : ∀ x : Str, x ≠ "__name__" → mb x = bootBuiltins x) (free : st.heap.NoLimit) (gens : st.gens = #[])
    (obj : st.heap.get? a = some { cls := .type "list", data := .seq vs.toArray }) (nums : IntsAre vs ns) (short : ns.length ≤ sizeLine)
    (go : ∀ (base : Heap) (H : Hp), K.In base → base.Ns mainGlobals mg → Env0 P w K mg base callerA [] st H → Only H → SqL K H a (ns.map V.int) → codeAny (model P w) callerA (.call (.ref fa) ⟨[.ref a], []⟩) (CR CX0 [] P w H st (fun v _ => v = .bl true) fun _ _ _ => False) st) :
    codeAny (model P w) callerA (.call (.ref fa) ⟨[.ref a], []⟩) (fun r s' => r = .ok (.ret (.bool true)) ∧ OldK st.heap s'.heap ∧ s'.os = st.os ∧ AllBare s'.gens) st := by
  have vals : Vals (ns.map V.int) vs := vals_ints nums
  have many : vs.length = ns.length := nums.length
  obtain ⟨H, hH⟩ : ∃ H, H = scriptH K a { cls := .type "list", data := .seq vs.toArray } (ns.map V.int) := ⟨_, rfl⟩
  have off : ∀ {b : Addr}, b ≠ a → H b = none := fun {b} n => by
    rw [hH]
    exact if_neg fun z => n z.1
  have only : Only H := fun b => by
    rw [hH]
    unfold scriptH
    by_cases c : b = a ∧ K.lookup a = none
    · rw [if_pos c]
      exact Or.inr ⟨_, _, rfl⟩
    · rw [if_neg c]
      exact Or.inl rfl
  have own : ∀ b u, H b = some u → b = a ∧ K.lookup a = none ∧ u = .frz { cls := .type "list", data := .seq vs.toArray } (.lst (ns.map V.int)) := fun b u z => by
    rw [hH] at z
    unfold scriptH at z
    by_cases c : b = a ∧ K.lookup a = none
    · rw [if_pos c] at z
      exact ⟨c.1, c.2, (Option.some.inj z).symm⟩
    · rw [if_neg c] at z
      cases z
  have hok : HOk P w H st.heap := fun b u z => by
    obtain ⟨rfl, _, rfl⟩ := own b u z
    exact ⟨obj, by rw [List.length_map]; exact short, vs, _, vals, obj⟩
  have script : SqL K H a (ns.map V.int) := by
    cases c : K.lookup a with
    | none => exact Or.inl (Or.inr ⟨{ cls := .type "list", data := .seq vs.toArray }, by rw [hH]; exact if_pos ⟨rfl, c⟩⟩)
    | some o =>
      have same := inside a o c
      rw [obj] at same
      cases same
      exact Or.inr ⟨_, vs.toArray, _, c, rfl, rfl, rfl, by rw [List.size_toArray, many]; exact short, by simpa using vals⟩
  -- what the base keeps
  have kept : ∀ {b : Addr} {o : Obj}, st.heap.get? b = some o → H b = none → (hidT st.heap H).get? b = some o := fun z n => hidT_get z n
  have dict : ∀ {b : Addr} {m : Str → Option Value}, st.heap.Ns b m → (hidT st.heap H).Ns b m := fun {b m} z => by
    obtain ⟨o, es, ep, z1, z2, z3⟩ := z
    refine ⟨o, es, ep, kept z1 ?_, z2, z3⟩
    by_cases c : b = a
    · rw [c, obj] at z1
      cases z1
      have z4 : Data.seq vs.toArray _ = Data.dict es ep := z2
      cases z4
    · exact off c
  have inBase : K.In (hidT st.heap H) := fun b o z => kept (inside b o z) (by
    cases c : H b with
    | none => rfl
    | some u =>
      obtain ⟨rfl, c2, _⟩ := own b u c
      rw [c2] at z
      cases z)
  have lim : (hidT st.heap H).NoLimit := by
    obtain ⟨m, z1, z2⟩ := free
    exact ⟨m, dict z1, z2⟩
  have mod : Mod K mg (hidT st.heap H) := ⟨inBase, dict glob, ⟨mb, dict bltn, boot⟩, lim⟩
  have env0 : Env0 P w K mg (hidT st.heap H) callerA [] st H := { frames := rfl, mod := mod, bs := fun _ _ z => of_hidT z, bsz := Nat.le_of_eq (hidT_size _ _), funs := trivial, frf := fun b z => absurd (show b ∈ ([] : List Addr) from z) (by simp), hok := hok, bare := .of_eq gens }
  refine codeAny_mono (go _ H inBase (dict glob) env0 only script) ?_
  intro r s' out
  match r, out with
  | .ok (.ret u), out =>
    obtain ⟨v, H2, o1, o2, un, ok2, rel, (z : v = .bl true)⟩ := out
    subst z
    obtain rfl : u = Value.bool true := rel
    refine ⟨rfl, OldK.of_keep fun b o z => ?_, o1, o2⟩
    cases c : H b with
    | none => exact un.keep b o z c (fun q => absurd (show b ∈ ([] : List Addr) from q) (by simp)) (by simp)
    | some u =>
      obtain ⟨rfl, _, rfl⟩ := own b u c
      rw [obj] at z
      cases z
      exact (ok2 b _ (un.frzs b _ _ c)).1
  | .ok .next, out => exact out.elim
  | .ok .brk, out => exact out.elim
  | .ok .cont, out => exact out.elim
  | .error e, out => exact False.elim out
/-- the law keeps its word at the one place where it is called -/
def LwOk (P : Program) (w : World) (K : PySem.W.Frag) (mg : Str → Option Value) (base : Heap) (fa : Addr) : Prop := ∀ (st : Shared) (H : Hp) (a : Addr) (ns : List Int), ns.length ≤ 63 → Env0 P w K mg base callerA [] st H → SqL K H a (iv ns) →
  codeAny (model P w) callerA (.call (.ref fa) ⟨[.ref a], []⟩) (CR CX0 [] P w H st (fun v _ => v = .bl true) fun _ _ _ => False) st
theorem law_run {st : Stmt} {f : Addr} {fd : FuncData} {N : List Str} (F : Fun K "law" "law" st f fd) (S : FnScope N ["_law_script"] (defScope st)) (hb : ∀ (s : Shared) (v : Value), BindsTo s fd ⟨[v], []⟩ [("_law_script", v)])
    (hbody : ∀ (cdv : Value) (s : Shared) (H : Hp) (a : Addr) (ns : List Int), ns.length ≤ 63 → SqL K H a (iv ns) → Room 5 (callerA.deeper (envOfC "law" (defScope st) s.heap.objs.size f cdv)) →
      ∃ t, PSs (cxOf CX0 P w K mg base N "law" (defScope st) f cdv callerA [] s H (fun _ _ _ => False)).nox (defBody st) t ∧ t { nx := fun _ _ => V.non = V.bl true, rt := fun v _ => v = V.bl true } (L2.start N [.ref a]) H) : LwOk P w K mg base f := by
  intro s H a ns hl e0 sq
  obtain ⟨oc, od, kV, doc, pm, an, cdv, ct, osl, rfl, lk, hcd⟩ := F.ex
  have room : Room 6 callerA := ⟨rfl, by decide, by decide⟩
  obtain ⟨t, walk, read⟩ := hbody cdv s H a ns hl sq (room.deeper _)
  exact run_at (ps := ["_law_script"]) (us := [.ref a]) (vs := [.ref a]) (Q := fun v _ => v = .bl true) (E := fun _ _ _ => False) lk hcd S room e0 (hb s (.ref a)) (.cons rfl .nil) rfl walk.nox read
theorem walk_at {l : PySem.W.OpenLaw} {q : Program} {loose : List Str} {XP : (Str → Option Value) → Heap → Prop} {YP : World → Heap → Prop} {d : DefRec} {Kp : Params → PySem.W.Frag}
    (most : l.most = some 63) (plain : d.params.defaults = []) (inK : ∀ (w : World) (h : Heap), YP w h → (Kp w.params).In h)
    (go : ∀ (w : World) (mg : Str → Option Value) (fa : Addr) (h : Heap), (Kp w.params).In h → h.Ns mainGlobals mg → mg d.name = some (.ref fa) → ∀ base : Heap, (Kp w.params).In base → base.Ns mainGlobals mg → LwOk l.prog w (Kp w.params) mg base fa) :
    PySem.W.WalkO q loose XP YP l.row.toRowW d [] (fun f vs => PySem.call f vs) := by
  refine Att.attach_call most plain ?_
  intro w _ st mg mb fa _ _ _ _ a vs ns G Y _ _ _ named obj nums short gens
  have k := inK w _ Y
  refine law_at (mb := mb) k G.T.g G.T.b G.T.builtins G.T.nolimit gens obj nums (Nat.le_trans short (by rw [sizeLine_eq]; decide)) ?_
  intro base H inb nsb env0 _ sq
  exact go w mg fa _ k G.T.g named base inb nsb st H a ns short env0 sq
end

section
variable {P : Program} {w : World} {K : PySem.W.Frag} {mg : Str → Option Value} {base : Heap}
/-! things of any kind, each list and tuple at its own place -/
mutual
inductive Dh (H : Hp) : V → PyData → Prop
  | non : Dh H .non .none
  | bl (b : Bool) : Dh H (.bl b) (.bool b)
  | int (i : Int) : Dh H (.int i) (.int i)
  | str (x : Str) : Dh H (.str x) (.str x)
  | lst {a : Addr} {xs : List V} {ds : List PyData} : H a = some (.lst xs) → DhAll H xs ds → Dh H (.ref a) (.list ds)
  | tup {a : Addr} {xs : List V} {ds : List PyData} : H a = some (.tup xs) → DhAll H xs ds → Dh H (.ref a) (.tuple ds)
inductive DhAll (H : Hp) : List V → List PyData → Prop
  | nil : DhAll H [] []
  | cons {v : V} {vs : List V} {d : PyData} {ds : List PyData} : Dh H v d → DhAll H vs ds → DhAll H (v :: vs) (d :: ds)
end
mutual
theorem Dh.dp {H : Hp} : ∀ (d : PyData) (v : V), Dh H v d → Dp K H v d
  | .none, _, h => by cases h; exact .non
  | .bool b, _, h => by cases h; exact .bl b
  | .int i, _, h => by cases h; exact .int i
  | .str x, _, h => by cases h; exact .str x
  | .list ds, _, h => by
    cases h with
    | lst h1 h2 => exact .lst (SqL.of h1) (DhAll.dp ds _ h2)
  | .tuple ds, _, h => by
    cases h with
    | tup h1 h2 => exact .tup (SqT.of h1) (DhAll.dp ds _ h2)
  | .dict _, _, h => nomatch h
theorem DhAll.dp {H : Hp} : ∀ (ds : List PyData) (vs : List V), DhAll H vs ds → DpAll K H vs ds
  | [], _, h => by cases h; exact .nil
  | d :: ds, _, h => by
    cases h with
    | cons h1 h2 => exact .cons (Dh.dp d _ h1) (DhAll.dp ds _ h2)
end
mutual
theorem Dh.same {H H' : Hp} (s : Same H H') : ∀ (d : PyData) (v : V), Dh H v d → Dh H' v d
  | .none, _, h => by cases h; exact .non
  | .bool b, _, h => by cases h; exact .bl b
  | .int i, _, h => by cases h; exact .int i
  | .str x, _, h => by cases h; exact .str x
  | .list ds, _, h => by
    cases h with
    | lst h1 h2 => exact .lst (s _ _ h1) (DhAll.same s ds _ h2)
  | .tuple ds, _, h => by
    cases h with
    | tup h1 h2 => exact .tup (s _ _ h1) (DhAll.same s ds _ h2)
  | .dict _, _, h => nomatch h
theorem DhAll.same {H H' : Hp} (s : Same H H') : ∀ (ds : List PyData) (vs : List V), DhAll H vs ds → DhAll H' vs ds
  | [], _, h => by cases h; exact .nil
  | d :: ds, _, h => by
    cases h with
    | cons h1 h2 => exact .cons (Dh.same s d _ h1) (DhAll.same s ds _ h2)
end
theorem DhAll.len {H : Hp} : ∀ {vs : List V} {ds : List PyData}, DhAll H vs ds → vs.length = ds.length
  | _, _, .nil => rfl
  | _, _, .cons _ t => congrArg (· + 1) t.len
theorem DhAll.get {H : Hp} : ∀ {vs : List V} {ds : List PyData} {i : Nat} {v : V} {d : PyData}, DhAll H vs ds → vs[i]? = some v → ds[i]? = some d → Dh H v d
  | _, _, 0, _, _, .cons h _, h1, h2 => by
    simp at h1 h2
    rw [← h1, ← h2]
    exact h
  | _, _, i + 1, _, _, .cons _ t, h1, h2 => t.get (i := i) (by simpa using h1) (by simpa using h2)
theorem DhAll.app {H : Hp} : ∀ {vs us : List V} {ds es : List PyData}, DhAll H vs ds → DhAll H us es → DhAll H (vs ++ us) (ds ++ es)
  | _, _, _, _, .nil, h => h
  | _, _, _, _, .cons a t, h => .cons a (t.app h)
theorem DhAll.take {H : Hp} : ∀ {vs : List V} {ds : List PyData} (n : Nat), DhAll H vs ds → DhAll H (vs.take n) (ds.take n)
  | _, _, 0, _ => by rw [List.take_zero, List.take_zero]; exact .nil
  | _, _, _ + 1, .nil => .nil
  | _, _, n + 1, .cons a t => .cons a (t.take n)
theorem DhAll.drop {H : Hp} : ∀ {vs : List V} {ds : List PyData} (n : Nat), DhAll H vs ds → DhAll H (vs.drop n) (ds.drop n)
  | _, _, 0, h => h
  | _, _, _ + 1, .nil => .nil
  | _, _, n + 1, .cons _ t => t.drop n
theorem dhInts {H : Hp} : ∀ m : List Int, DhAll H (iv m) (m.map PyData.int)
  | [] => .nil
  | x :: m => .cons (.int x) (dhInts m)
theorem IL.dh {H : Hp} {a : Addr} {m : Row} (h : IL H a m) : Dh H (.ref a) (dRow m) := .lst h (dhInts m)
/-- the kind of a thing -/
def tyD : PyData → String
  | .none => "NoneType"
  | .bool _ => "bool"
  | .int _ => "int"
  | .str _ => "str"
  | .list _ => "list"
  | .tuple _ => "tuple"
  | .dict _ => "dict"
def isLD : PyData → Bool
  | .list _ => true
  | _ => false
def isTD : PyData → Bool
  | .tuple _ => true
  | _ => false
def isID : PyData → Bool
  | .int _ => true
  | .bool _ => true
  | _ => false
def isBD : PyData → Bool
  | .bool _ => true
  | _ => false
theorem Dh.ty {H : Hp} {v : V} {d : PyData} (h : Dh H v d) : TyX K H v (.type (tyD d)) := by
  cases h with
  | non => exact .base .non
  | bl b => exact .base (.bl b)
  | int i => exact .base (.int i)
  | str x => exact .base (.str x)
  | lst h1 _ => exact .base (.lst h1)
  | tup h1 _ => exact .base (.tup h1)
theorem kitL (d : PyData) : PySem.W.kitOne K (.type (tyD d)) (.type "list") = some (isLD d) := by
  cases d with
  | none => exact kit_ty (a := "NoneType") (b := "list") (r := false) (by decide +kernel)
  | bool _ => exact kit_ty (a := "bool") (b := "list") (r := false) (by decide +kernel)
  | int _ => exact kit_ty (a := "int") (b := "list") (r := false) (by decide +kernel)
  | str _ => exact kit_ty (a := "str") (b := "list") (r := false) (by decide +kernel)
  | list _ => exact kit_ty (a := "list") (b := "list") (r := true) (by decide +kernel)
  | tuple _ => exact kit_ty (a := "tuple") (b := "list") (r := false) (by decide +kernel)
  | dict _ => exact kit_ty (a := "dict") (b := "list") (r := false) (by decide +kernel)
theorem kitI (d : PyData) : PySem.W.kitOne K (.type (tyD d)) (.type "int") = some (isID d) := by
  cases d with
  | none => exact kit_ty (a := "NoneType") (b := "int") (r := false) (by decide +kernel)
  | bool _ => exact kit_ty (a := "bool") (b := "int") (r := true) (by decide +kernel)
  | int _ => exact kit_ty (a := "int") (b := "int") (r := true) (by decide +kernel)
  | str _ => exact kit_ty (a := "str") (b := "int") (r := false) (by decide +kernel)
  | list _ => exact kit_ty (a := "list") (b := "int") (r := false) (by decide +kernel)
  | tuple _ => exact kit_ty (a := "tuple") (b := "int") (r := false) (by decide +kernel)
  | dict _ => exact kit_ty (a := "dict") (b := "int") (r := false) (by decide +kernel)
theorem kitBo (d : PyData) : PySem.W.kitOne K (.type (tyD d)) (.type "bool") = some (isBD d) := by
  cases d with
  | none => exact kit_ty (a := "NoneType") (b := "bool") (r := false) (by decide +kernel)
  | bool _ => exact kit_ty (a := "bool") (b := "bool") (r := true) (by decide +kernel)
  | int _ => exact kit_ty (a := "int") (b := "bool") (r := false) (by decide +kernel)
  | str _ => exact kit_ty (a := "str") (b := "bool") (r := false) (by decide +kernel)
  | list _ => exact kit_ty (a := "list") (b := "bool") (r := false) (by decide +kernel)
  | tuple _ => exact kit_ty (a := "tuple") (b := "bool") (r := false) (by decide +kernel)
  | dict _ => exact kit_ty (a := "dict") (b := "bool") (r := false) (by decide +kernel)
/-! what may be shown -/
/-- as str tells it -/
def strT : PyData → Str
  | .str x => x
  | d => d.shown
structure Gd (n : Nat) (d : PyData) : Prop where
  show_ : d.showable = true
  nod : d.hasDict = false
  dep : d.depth ≤ n
  short : d.leavesShort 100 = true
  bulk : d.bulk ≤ 10000
theorem Gd.len {n : Nat} {d : PyData} (g : Gd n d) : d.shown.length ≤ sizeLine := by
  have := PyData.shown_le_bulk 100 (by decide) d g.short
  have := g.bulk
  rw [sizeLine_eq]
  omega
theorem cStrD {X : Cx} (hg : X.A.guards = some []) (hu : X.A.units + 100 < cLine) : CallR X (.type "str") (fun xs H Q => ∃ (v : V) (d : PyData), xs = [v] ∧ Dh H v d ∧ Gd 60 d ∧ Q (.str (strT d)) H) := by
  intro pins s σ H xs us Q I r h
  obtain ⟨v, d, rfl, dh, g, q⟩ := h
  obtain ⟨u, rfl, r1⟩ := vals1 r
  obtain ⟨as, rd⟩ := Dp.reads I d v u (dh.dp) r1
  cases dh with
  | non =>
    cases r1
    exact PySem.P.str_of_none ⟨.str _, H, I.tok _, ⟨_, rfl⟩, q⟩
  | bl b =>
    cases r1
    exact PySem.P.str_of_bool ⟨.str _, H, I.tok _, ⟨_, rfl⟩, q⟩
  | int i =>
    obtain ⟨t, rfl⟩ := r1
    exact PySem.P.str_of_int (by simpa [PyData.showable] using g.show_) ⟨.str _, H, I.tok _, ⟨_, rfl⟩, q⟩
  | str x =>
    obtain ⟨t, rfl⟩ := r1
    exact PySem.P.str_of_str ⟨.str x, H, I, ⟨t, rfl⟩, q⟩
  | lst h1 h2 =>
    cases r1
    exact PySem.str_of_reads rd g.show_ (fun z => by rw [g.nod] at z; cases z) hg (by have := g.dep; omega) (fun _ _ e => e) (fun h' u tk hk => ⟨.str _, H, I.kept hk, ⟨u, rfl⟩, q⟩) g.len
  | tup h1 h2 =>
    cases r1
    exact PySem.str_of_reads rd g.show_ (fun z => by rw [g.nod] at z; cases z) hg (by have := g.dep; omega) (fun _ _ e => e) (fun h' u tk hk => ⟨.str _, H, I.kept hk, ⟨u, rfl⟩, q⟩) g.len
end

section
variable {P : Program} {w : World} {K : PySem.W.Frag} {mg : Str → Option Value} {base : Heap}
/-- a rest below e -/
def restB (e : Int) : PyData → Bool
  | .int i => decide (0 ≤ i ∧ i < e)
  | _ => false
def restsB (e : Int) : PyData → Bool
  | .list ds => ds.all (restB e)
  | _ => false
def nzLast (ds : List PyData) : Bool :=
  match ds.getLast? with
  | some (.int i) => decide (i ≠ 0)
  | _ => true
def polyB (e : Int) : PyData → Bool
  | .list ds => ds.all (restB e) && nzLast ds
  | _ => false
theorem restB_inv {e : Int} {d : PyData} (h : restB e d = true) : ∃ i, d = .int i ∧ 0 ≤ i ∧ i < e := by
  cases d with
  | int i => exact ⟨i, rfl, of_decide_eq_true h⟩
  | _ => cases h
theorem all_rows {e : Int} {m : Row} (h : ∀ x ∈ m, 0 ≤ x ∧ x < e) : (m.map PyData.int).all (restB e) = true := List.all_eq_true.mpr fun d hd => by
  obtain ⟨x, hx, rfl⟩ := List.mem_map.mp hd
  exact decide_eq_true (h x hx)
theorem polyB_row {e : Int} {m : Row} (h : Pol e m) : polyB e (dRow m) = true := by
  show ((m.map PyData.int).all (restB e) && nzLast (m.map PyData.int)) = true
  rw [all_rows h.rng, Bool.true_and]
  unfold nzLast
  by_cases hm : m = []
  · rw [hm]
    rfl
  · have l := ne_nil_len.mp hm
    rw [List.getLast?_eq_getElem?, List.length_map, List.getElem?_map, ent_some (by omega)]
    exact decide_eq_true (h.last hm)
/-- all items so far -/
theorem all_take_succ {α : Type} {f : α → Bool} {l : List α} {i : Nat} {x : α} (h : l[i]? = some x) : (l.take (i + 1)).all f = ((l.take i).all f && f x) := by
  rw [List.take_add_one, h, List.all_append]
  simp
theorem ent_set2 {m : Row} {i : Nat} {x : Int} (h : i < m.length) (k : Nat) : ent (m.set i x) k = if k = i then x else ent m k := by
  unfold ent
  rw [List.getD_eq_getElem?_getD, List.getElem?_set]
  by_cases e : i = k
  · rw [if_pos e, if_pos h, if_pos e.symm]
    rfl
  · rw [if_neg e, if_neg (fun z => e z.symm), List.getD_eq_getElem?_getD]
theorem rng_set {p : Int} {m : Row} {i : Nat} {x : Int} (h : ∀ y ∈ m, 0 ≤ y ∧ y < p) (h0 : 0 ≤ x) (h1 : x < p) : ∀ y ∈ m.set i x, 0 ≤ y ∧ y < p := fun y hy => by
  rcases List.mem_or_eq_of_mem_set hy with z | z
  · exact h y z
  · rw [z]
    exact ⟨h0, h1⟩
end

section
variable {P : Program} {w : World} {K : PySem.W.Frag} {mg : Str → Option Value} {base : Heap}
/-- a small thing -/
structure Sm (n : Nat) (d : PyData) : Prop where
  show_ : d.showable = true
  nod : d.hasDict = false
  dep : d.depth ≤ n
  short : d.leavesShort 100 = true
  bulk : d.bulk ≤ 50
theorem sm_all {n : Nat} : ∀ {ds : List PyData}, (∀ d ∈ ds, Sm n d) → PyData.showableAll ds = true ∧ PyData.hasDictAll ds = false ∧ PyData.depthAll ds ≤ n ∧ PyData.leavesShortAll 100 ds = true ∧ PyData.bulkAll ds ≤ 51 * ds.length
  | [], _ => ⟨rfl, rfl, Nat.zero_le _, rfl, Nat.le_refl _⟩
  | d :: ds, h => by
    obtain ⟨a1, a2, a3, a4, a5⟩ := sm_all (ds := ds) fun e he => h e (List.mem_cons_of_mem _ he)
    have s := h d List.mem_cons_self
    refine ⟨?_, ?_, ?_, ?_, ?_⟩
    · show (d.showable && PyData.showableAll ds) = true
      rw [s.show_, a1]
      rfl
    · show (d.hasDict || PyData.hasDictAll ds) = false
      rw [s.nod, a2]
      rfl
    · show max d.depth (PyData.depthAll ds) ≤ n
      have := s.dep
      omega
    · show (d.leavesShort 100 && PyData.leavesShortAll 100 ds) = true
      rw [s.short, a4]
      rfl
    · show d.bulk + 1 + PyData.bulkAll ds ≤ 51 * (ds.length + 1)
      have := s.bulk
      omega
theorem Sm.gd {n : Nat} {d : PyData} (s : Sm n d) (h : n ≤ 60) : Gd 60 d := ⟨s.show_, s.nod, Nat.le_trans s.dep h, s.short, Nat.le_trans s.bulk (by decide)⟩
theorem gd_list {n : Nat} {ds : List PyData} (h : ∀ d ∈ ds, Sm n d) (hl : ds.length ≤ 150) (hn : n < 60) : Gd 60 (.list ds) := by
  obtain ⟨a1, a2, a3, a4, a5⟩ := sm_all h
  exact ⟨a1, a2, by show PyData.depthAll ds + 1 ≤ 60; omega, a4, by show PyData.bulkAll ds ≤ 10000; omega⟩
theorem gd_tuple {n : Nat} {ds : List PyData} (h : ∀ d ∈ ds, Sm n d) (hl : ds.length ≤ 150) (hn : n < 60) : Gd 60 (.tuple ds) := by
  obtain ⟨a1, a2, a3, a4, a5⟩ := sm_all h
  exact ⟨a1, a2, by show PyData.depthAll ds + 1 ≤ 60; omega, a4, by show PyData.bulkAll ds ≤ 10000; omega⟩
theorem sm_int {i : Int} (h : i.natAbs < 10 ^ 60) : Sm 0 (.int i) := by
  refine ⟨?_, rfl, Nat.le_refl _, ?_, Nat.zero_le _⟩
  · show decide (i.natAbs.log2 < 1920) = true
    refine decide_eq_true ?_
    have h2 : i.natAbs < 2 ^ 200 := Nat.lt_trans h (by decide +kernel)
    have := PySem.Flt.log2_lt_of (by decide) h2
    omega
  · show decide ((PyData.shown (.int i)).length ≤ 100) = true
    refine decide_eq_true ?_
    have e : (PyData.shown (.int i)).length = (toString i).length := PySem.ofString_length _
    have := int_text_length_le10 (k := 60) (by decide) h
    omega
theorem sm_small {i : Int} (h0 : -1000 ≤ i) (h1 : i ≤ 1000) : Sm 0 (.int i) := sm_int (Nat.lt_trans (m := 1001) (by omega) (by decide +kernel))
theorem sm_none : Sm 0 .none := ⟨rfl, rfl, Nat.le_refl _, rfl, Nat.zero_le _⟩
theorem sm_bool (b : Bool) : Sm 0 (.bool b) := ⟨rfl, rfl, Nat.le_refl _, rfl, Nat.zero_le _⟩
theorem Sm.mono {n m : Nat} {d : PyData} (s : Sm n d) (h : n ≤ m) : Sm m d := ⟨s.show_, s.nod, Nat.le_trans s.dep h, s.short, s.bulk⟩
theorem sm_row {p : Int} (hp : p ≤ 11) {m : Row} (h : ∀ x ∈ m, 0 ≤ x ∧ x < p) : ∀ d ∈ m.map PyData.int, Sm 0 d := fun d hd => by
  obtain ⟨x, hx, rfl⟩ := List.mem_map.mp hd
  have := h x hx
  exact sm_small (by omega) (by omega)
theorem gd_row {p : Int} (hp : p ≤ 11) {m : Row} (h : ∀ x ∈ m, 0 ≤ x ∧ x < p) (hl : m.length ≤ 150) : Gd 60 (dRow m) := gd_list (sm_row hp h) (by rw [List.length_map]; exact hl) (by decide)
/-- what is put in: twelve things -/
def oddV (p far : Int) (u t : Addr) : List V := [.int p, .int (-1), .bl true, .bl false, .non, .str "1", .int far, .int (0 - far), .ref u, .ref t, .int 0, .int (p - 1)]
def oddD (p far : Int) : List PyData := [.int p, .int (-1), .bool true, .bool false, .none, .str "1", .int far, .int (0 - far), .list [.int 1], .tuple [.int 1], .int 0, .int (p - 1)]
theorem odd_dh {H : Hp} {p far : Int} {u t : Addr} (hu : H u = some (.lst [.int 1])) (ht : H t = some (.tup [.int 1])) : DhAll H (oddV p far u t) (oddD p far) :=
  .cons (.int _) (.cons (.int _) (.cons (.bl _) (.cons (.bl _) (.cons .non (.cons (.str _) (.cons (.int _) (.cons (.int _) (.cons (.lst hu (.cons (.int 1) .nil)) (.cons (.tup ht (.cons (.int 1) .nil)) (.cons (.int _) (.cons (.int _) .nil)))))))))))
theorem sm_one : Sm 1 (.list [.int 1]) ∧ Sm 1 (.tuple [.int 1]) := by
  have s : ∀ d ∈ [PyData.int 1], Sm 0 d := fun d hd => by
    rw [List.mem_singleton.mp hd]
    exact sm_small (by decide) (by decide)
  obtain ⟨a1, a2, a3, a4, a5⟩ := sm_all s
  exact ⟨⟨a1, a2, by show PyData.depthAll [.int 1] + 1 ≤ 1; omega, a4, by show PyData.bulkAll [.int 1] ≤ 50; decide⟩, ⟨a1, a2, by show PyData.depthAll [.int 1] + 1 ≤ 1; omega, a4, by show PyData.bulkAll [.int 1] ≤ 50; decide⟩⟩
theorem sm_str1 : Sm 0 (.str "1") := ⟨rfl, rfl, Nat.le_refl _, by decide +kernel, by decide +kernel⟩
theorem sm_str0 : Sm 0 (.str "") := ⟨rfl, rfl, Nat.le_refl _, by decide +kernel, by decide +kernel⟩
theorem odd_sm {p far : Int} (h0 : 0 ≤ p) (hp : p ≤ 11) (hf : far.natAbs < 10 ^ 60) : ∀ d ∈ oddD p far, Sm 1 d := fun d hd => by
  unfold oddD at hd
  simp only [List.mem_cons, List.not_mem_nil, or_false] at hd
  have z := Nat.zero_le 1
  rcases hd with rfl | rfl | rfl | rfl | rfl | rfl | rfl | rfl | rfl | rfl | rfl | rfl
  · exact (sm_small (by omega) (by omega)).mono z
  · exact (sm_small (by decide) (by decide)).mono z
  · exact (sm_bool _).mono z
  · exact (sm_bool _).mono z
  · exact sm_none.mono z
  · exact sm_str1.mono z
  · exact (sm_int hf).mono z
  · exact (sm_int (by rw [Int.zero_sub, Int.natAbs_neg]; exact hf)).mono z
  · exact sm_one.1
  · exact sm_one.2
  · exact (sm_small (by decide) (by decide)).mono z
  · exact (sm_small (by omega) (by omega)).mono z
theorem rep_ints (n : Nat) (x : Int) : (List.replicate (n : Int).toNat [V.int x]).flatten = iv (List.replicate n x) := by
  rw [Int.toNat_natCast]
  induction n with
  | zero => rfl
  | succ n ih =>
    rw [List.replicate_succ, List.flatten_cons, ih, List.replicate_succ]
    rfl
theorem cut_take (xs : List V) (e : Nat) : cutV xs none (some (e : Int)) = xs.take e := by
  unfold cutV
  rw [show HT.sIx xs.length xs.length (some (e : Int)) = min e xs.length from HT.sIx_nat xs.length xs.length e, HT.sIx_none]
  show (xs.drop 0).take (min e xs.length - 0) = _
  rw [List.drop_zero, Nat.sub_zero, ← List.take_take, List.take_length]
theorem cut_drop (xs : List V) (e : Nat) : cutV xs (some (e : Int)) none = xs.drop e := by
  unfold cutV
  rw [show HT.sIx xs.length 0 (some (e : Int)) = min e xs.length from HT.sIx_nat xs.length 0 e, HT.sIx_none]
  by_cases h : e ≤ xs.length
  · rw [Nat.min_eq_left h]
    exact List.take_of_length_le (by rw [List.length_drop]; omega)
  · rw [Nat.min_eq_right (by omega), List.drop_length, List.drop_eq_nil_of_le (by omega)]
    simp
end

section
open GenW
variable {X : Cx} {pins : List (Addr × Obj)} {σ : L2.St} {H : Hp} {s : Shared}
theorem inv_gens {gs : Array GenState} (I : Inv X pins σ H s) (hg : AllBare gs) : Inv X pins σ H { s with gens := gs } :=
  I.call (ch := []) (h' := s.heap) (t' := s.toks) (d' := s.drawn) (g' := gs) Un.refl I.hok hg (fun b z => absurd z (by simp))
theorem inv_more {gs : Array GenState} {h' : Heap} (I : Inv X pins σ H s) (hg : AllBare gs) (k : ∀ b o, s.heap.get? b = some o → h'.get? b = some o) : Inv X pins σ H { s with gens := gs, heap := h' } :=
  I.call (ch := []) (h' := h') (t' := s.toks) (d' := s.drawn) (g' := gs) (Un.kept k) (I.hok.kept k) hg (fun b z => absurd z (by simp))
/-- the context of a generator expression's loop that a built-in draws: made at s; its iterator's objects at fp, its own object pinned -/
abbrev gxX (X : Cx) (s : Shared) (H : Hp) (cenv : Env) (fp : List Addr) (Ag : Around) (pn : List (Addr × Obj)) : Cx :=
  { X with A := Ag, s_0 := s, H_0 := H, env := cenv, outer := X.stack, stack := cenv :: X.stack, ex := fp, fn := fun _ => false, calm := true, pn := pn, xe := fun _ _ => False }
abbrev gxEnv (X : Cx) (scope : Scope) (C : Addr) (code : Value) : Env := genEnv scope (cloFrom X.env.cells scope.names []) C code builtinsNs X.env

theorem gx_start {scope : Scope} {own : List (Str × Nat)} {fp : List Addr} {code : Value} {Ag : Around} {a : Addr} {go : Obj} {h5 : Heap} {tk : Nat} {gs : Array GenState} {it : Value}
    (I : Inv X pins σ H s) (ok : BlkOk X.N X.env.scope scope own) (hcell : ∀ y ∈ scope.names, y.2 ≠ .cell) (hN : X.N.Nodup) (hfp : ∀ b ∈ fp, FpOk X pins H b ∧ b < s.heap.objs.size)
    (hd : Ag.handled = none) (hfr : Ag.frames = some (gxEnv X scope s.heap.objs.size code :: X.stack))
    (kp : ∀ b o, s.heap.get? b = some o → h5.get? b = some o) (hns : h5.Ns s.heap.objs.size (fun y => if y = (".0" : Str) then some it else none))
    (ha : h5.get? a = some go) (hlt : s.heap.objs.size < a) (hgo : ∀ v, go.data ≠ .cell v) (hb : AllBare gs) :
    Inv (gxX X s H (gxEnv X scope s.heap.objs.size code) fp Ag [(a, go)]) [] (wipe σ (own.map (·.2))) H { s with gens := gs, toks := tk, heap := h5 } := by
  have hfree : ∀ y ∈ scope.names, y.2 = .free → ∃ c, X.env.cells.lookup y.1 = some c := fun y hy e => by
    rcases ok.free y hy e with k | k
    · exact I.ok.has _ (.inl k)
    · exact I.ok.has _ (.inr k)
  generalize hcenv : gxEnv X scope s.heap.objs.size code = cenv at hfr ⊢
  have hL : cenv.locals = s.heap.objs.size := by rw [← hcenv]; rfl
  have hcl : cenv.cells = cloFrom X.env.cells scope.names [] := by rw [← hcenv]; rfl
  have hsc : cenv.scope = scope := by rw [← hcenv]; rfl
  have cm : ∀ {y c}, cenv.cells.lookup y = some c → X.env.cells.lookup y = some c ∧ c < s.heap.objs.size := fun {y c} e => by
    rw [hcl] at e
    rcases cloFrom_mem (PySem.mem_of_lookup e) with hm | ⟨h1, rfl⟩
    · cases hm
    · obtain ⟨c, hc⟩ := hfree _ h1 rfl
      rw [hc]
      obtain ⟨w, z⟩ := I.cell _ _ hc
      exact ⟨rfl, z.lt⟩
  have look : ∀ {y}, scope.names.lookup y = some .free → ∃ c, cenv.cells.lookup y = some c ∧ X.env.cells.lookup y = some c := fun {y} hl => by
    have hy : (y, NameKind.free) ∈ scope.names := PySem.mem_of_lookup hl
    obtain ⟨c', e'⟩ := mem_lookup (cloFrom_has (cells := X.env.cells) (acc := []) hy)
    rw [← hcl] at e'
    exact ⟨c', e', (cm e').1⟩
  have nocell : ∀ {y}, scope.names.lookup y ≠ some .cell := fun {y} e => hcell _ (PySem.mem_of_lookup e) rfl
  have okB : (gxX X s H cenv fp Ag [(a, go)]).Ok := by
    refine ⟨I.ok.mod, by show cenv.scope.kind = _; rw [hsc]; exact ok.kind, by show cenv.globals = _; rw [← hcenv]; exact I.ok.glob, by show cenv.builtins = _; rw [← hcenv]; rfl, by show s.heap.objs.size ≤ cenv.locals; rw [hL]; exact Nat.le_refl _,
      fun y z c e1 e2 => I.ok.inj y z c (cm e1).1 (cm e2).1, fun y hy => ?_, fun y c z e => (by cases z), fun _ => hd, hfr, .inr ⟨rfl, by show cenv.frame = some cenv.locals; rw [← hcenv]; rfl⟩, fun b hb => ⟨?_, fun y c e z => ?_⟩, I.bs, Nat.le_trans I.ok.bsz I.sz, fun b o e hb => ?_, fun b hb z => ?_, I.stack, I.stkFree⟩
    · show ∃ c, cenv.cells.lookup y = some c
      have hy : cenv.scope.names.lookup y = some .cell ∨ cenv.scope.names.lookup y = some .free := hy
      rw [hsc] at hy
      rcases hy with hy | hy
      · exact absurd hy nocell
      · obtain ⟨c, h1, _⟩ := look hy
        exact ⟨c, h1⟩
    · show b ≠ cenv.locals
      rw [hL]; exact Nat.ne_of_lt (hfp b hb).2
    · exact (hfp b hb).1.2.2.2.2.1 y c (cm (show cenv.cells.lookup y = some c from e)).1 z
    · rcases (hfp b hb).1.2.2.2.1 with z | z
      · exact I.ok.noex b o e z
      · exact absurd (Nat.lt_of_lt_of_le (Heap.lt_size e) (Nat.le_trans I.ok.bsz z)) (Nat.lt_irrefl _)
    · rcases List.mem_cons.mp (I.stkSub b z) with z | z
      · exact (hfp b hb).1.2.1 z
      · exact (hfp b hb).1.2.2.1 z
  have fresh : ∀ b, s.heap.objs.size ≤ b → H b = none := fun b hb => I.hok.fresh hb
  refine ⟨okB, rfl, hb, Un.kept kp, ⟨(fun y => if y = (".0" : Str) then some it else none), ?_, fun i y av e1 e2 e3 => ?_⟩, fun y c e => ?_, ?_, fun y c e => I.freeC y c (cm e).1, fun p hp => ?_, I.hok.kept kp, by rw [wipe_length]; exact I.len⟩
  · show Heap.Ns _ cenv.locals _
    rw [hL]
    exact hns
  · obtain ⟨e2, hne⟩ := wipe_some e2
    have e3 : Vis cenv.scope y := e3
    rw [hsc] at e3
    have no : ∀ k, scope.names.lookup y = some k → ¬ (k = .local ∨ k = .cell) := fun k hk hh => by
      rcases ok.own _ (PySem.mem_of_lookup hk) hh with e' | e'
      · obtain ⟨p, hp, hpy⟩ := List.mem_map.mp e'
        have e3 := ok.ix p hp
        have : p.1 = y := hpy
        rw [this] at e3
        exact hne (List.mem_map.mpr ⟨p, hp, nodup_ix hN e3 e1⟩)
      · exact e' (List.mem_of_getElem? e1)
    have hfr : scope.names.lookup y = some .free := by
      rcases e3 with e3 | e3 | e3
      · exact absurd (.inl rfl) (no _ e3)
      · exact absurd (.inr rfl) (no _ e3)
      · exact e3
    obtain ⟨m, hn, hl⟩ := I.loc
    have hvis : Vis X.env.scope y := (ok.free _ (PySem.mem_of_lookup hfr) rfl).elim (fun k => .inr (.inl k)) (fun k => .inr (.inr k))
    obtain ⟨w, r, q⟩ := hl i y av e1 e2 hvis
    refine ⟨w, r, .inr ⟨.inr (by show cenv.scope.names.lookup y = _; rw [hsc]; exact hfr), ?_⟩⟩
    obtain ⟨c, h1, h2⟩ := look hfr
    rcases q with ⟨k, _⟩ | ⟨_, c', e', z⟩
    · have k : X.env.scope.names.lookup y = some .local := k
      rcases ok.free _ (PySem.mem_of_lookup hfr) rfl with k' | k' <;> rw [show X.env.scope.names.lookup y = _ from k'] at k <;> cases k
    · rw [h2] at e'; cases e'
      exact ⟨c, h1, z.keeps kp⟩
  · obtain ⟨w, z⟩ := I.cell y c (cm e).1
    exact ⟨w, z.keeps kp⟩
  · show H cenv.locals = none
    rw [hL]; exact fresh _ (Nat.le_refl _)
  · have hp : p = (a, go) := by simpa using hp
    subst hp
    refine ⟨ha, fresh _ (Nat.le_of_lt hlt), ?_, fun z => ?_, hgo⟩
    · show a ≠ cenv.locals
      rw [hL]; exact Nat.ne_of_gt hlt
    · have z : a ∈ frs X.stack := z
      rcases List.mem_cons.mp (I.stkSub a z) with z | z
      · have := I.lt
        rw [← z] at this
        exact absurd (Nat.lt_trans this hlt) (Nat.lt_irrefl _)
      · exact I.nofs (Nat.le_of_lt hlt) z

/-- the loop has come to its end -/
def GxE (X' : Cx) (σ0 : L2.St) (Pv : Nat → Hp → Prop) (L : Nat) : Nat → Shared → Shared → Prop := fun n _ s1 => n = 0 ∧ ∃ H', Inv X' [] σ0 H' s1 ∧ Pv L H'
/-- it hands out a truth -/
def GxY (X' : Cx) (σ0 : L2.St) (Pv : Nat → Hp → Prop) (pb : Nat → Bool) (L : Nat) : Protocol := fun n _ v s1 kap =>
  ∃ i H', n + 1 + i = L ∧ v = .bool (pb i) ∧ Inv X' [] σ0 H' s1 ∧ Pv (i + 1) H' ∧ ∀ gs, AllBare gs → kap (.send .none) { s1 with gens := gs }

theorem seg_gxLoop {X' : Cx} {A : Around} {elt tg iter : Expr} {scope : Scope} {pos : Pos} {it : Addr} {fp : List Addr} {J : It} {tn : Nat → Heap → Prop} {g : TG} {te : TE} {vs : List Nat} {L : Nat} {pb : Nat → Bool} {Pv : Nat → Hp → Prop}
    (hXA : X'.A = A.over (.compLoop (.GeneratorExp elt [⟨tg, iter, [], 0⟩] scope pos) 0 (.ref it) .none X'.env) []) (hxe : X'.xe = fun _ _ => False) (hc : X'.calm = true) (hex : X'.ex = fp) (hpn : ∀ p ∈ X'.pn, p.1 ∉ fp)
    (hco : X'.env.scope.isCoroutine = false) (T : Turn X'.prog X'.w X'.K tg J fp it tn) (pg : PG X' tg g) (pe : PE X' elt te)
    (go : ∀ i H, i < L → Pv i H → J.go i H) (stop : ∀ H, Pv L H → J.stop L H)
    (step : ∀ i x H H', i < L → Pv i H → J.yld i H x H' → g x (wipe σ vs) H' fun σ2 H2 => wipe σ2 vs = wipe σ vs ∧ te σ2 H2 fun v H3 => v = .bl (pb i) ∧ Pv (i + 1) H3) :
    ∀ (n i : Nat) (s₀ s : Shared) (H : Hp), n + i = L → Inv X' [] (wipe σ vs) H s → tn i s.heap → (∀ b ∈ fp, H b = none) → Pv i H →
      Seg (model X'.prog X'.w) A (fun n s₀ r s₁ => r = .ok .next ∧ GxE X' (wipe σ vs) Pv L n s₀ s₁) (GxY X' (wipe σ vs) Pv pb L) n s₀
        (.compLoop (.GeneratorExp elt [⟨tg, iter, [], 0⟩] scope pos) 0 (.ref it) .none X'.env)
        ((model X'.prog X'.w).den (.compLoop (.GeneratorExp elt [⟨tg, iter, [], 0⟩] scope pos) 0 (.ref it) .none X'.env)) [] s := by
  have stat : ∀ {σ' : L2.St} {H' : Hp} {s' : Shared}, Inv X' [] σ' H' s' → (∀ b ∈ fp, H' b = none) → ∀ b ∈ fp, FpOk X' [] H' b := fun {σ' H' s'} I' hn b hb =>
    ⟨hn b hb, (I'.ok.exf b (by rw [hex]; exact hb)).1, I'.ok.exfs b (by rw [hex]; exact hb), .inl (by rw [hex]; exact hb), fun x c e => (I'.ok.exf b (by rw [hex]; exact hb)).2 x c e, fun p hp z => by
      rcases List.mem_append.mp hp with hp | hp
      · exact hpn p hp (by rw [z]; exact hb)
      · cases hp⟩
  intro n
  induction n with
  | zero =>
    intro i s₀ s H hi I st nf pv
    have hi : i = L := by omega
    subst hi
    show Seg _ A _ _ _ s₀ _ ((compTurn (.GeneratorExp elt [⟨tg, iter, [], 0⟩] scope pos) 0 (.ref it) .none X'.env).onRaise (leaving X'.env)) [] s
    rw [compTurn_gen, Sem.onRaise_eq_wrap]
    refine seg_bind_wrap (wpAny_standAt ?_)
    refine seg_bind_wrap ?_
    rw [← hXA]
    refine thnF (T.done X' rfl rfl rfl hc i [] s _ H (fun _ _ => False) I (stat I nf) st (stop H pv)) fun r s6 ⟨hr, I6⟩ => ?_
    subst hr
    exact seg_end (.ok .next) ⟨rfl, rfl, H, I6, pv⟩
  | succ n ih =>
    intro i s₀ s H hi I st nf pv
    have hlt : i < L := by omega
    show Seg _ A _ _ _ s₀ _ ((compTurn (.GeneratorExp elt [⟨tg, iter, [], 0⟩] scope pos) 0 (.ref it) .none X'.env).onRaise (leaving X'.env)) [] s
    rw [compTurn_gen, Sem.onRaise_eq_wrap]
    refine seg_bind_wrap (wpAny_standAt ?_)
    refine seg_bind_wrap ?_
    rw [← hXA]
    refine thnF (T.item X' rfl rfl rfl hc i [] s _ H (fun _ _ => False) I (stat I nf) st (go i H hlt pv)) fun r s6 ⟨u, hr, h6⟩ => ?_
    subst hr
    refine seg_bind_wrap ?_
    rw [← hXA]
    refine thnF h6 fun _ s7 ⟨x, H7, I7, r7, y7, st7, n7⟩ => ?_
    have I7' := I7.pinned (stat I7 n7) (T.obj _ _ st7)
    refine seg_bind_wrap ?_
    rw [← hXA]
    have run8 := pg.run _ s7 _ H7 x u _ I7' r7 (step i x H H7 hlt pv y7)
    rw [hxe] at run8
    refine thnF run8 fun _ s8 ⟨σ8, H8, I8, hw8, q8⟩ => ?_
    refine seg_bind_wrap ?_
    simp only [List.forIn_nil]
    refine wpAny_pure ?_
    simp only [if_true]
    have hy : ∀ v, yieldOut X'.env v = yieldValue v := fun v => by simp only [yieldOut, hco, Bool.false_eq_true, if_false]
    simp only [hy]
    rw [Sem.bind_eq_wrap', Sem.bind_eq_wrap', Sem.wrap_wrap, Sem.wrap_wrap]
    refine seg_wrap ?_
    rw [← hXA]
    have run9 := pe.run _ s8 σ8 H8 _ I8 q8
    rw [hxe] at run9
    refine thnF run9 fun y s9 ⟨yv, H9, I9, r9, ev, pv9⟩ => ?_
    subst ev
    have ey : y = .bool (pb i) := r9
    subst ey
    have pin' : ∀ b ∈ fp, ∀ o, s7.heap.get? b = some o → s9.heap.get? b = some o ∧ H9 b = none := fun b hb o e =>
      let z := I9.pin (b, o) (List.mem_append_right _ (List.mem_append_right _ (mem_pinsAt hb e)))
      ⟨z.1, z.2.1⟩
    have hl : (wipe σ vs).length = σ8.length := by rw [← hw8, wipe_length]
    have I10 : Inv X' [] (wipe σ vs) H9 s9 := (I9.unpinned (pins := [])).weak hl (fun j v e => by
      rw [← hw8] at e
      exact (wipe_some e).1)
    have st10 : tn (i + 1) s9.heap := T.keep _ _ _ st7 fun b hb o e => (pin' b hb o e).1
    have nf10 : ∀ b ∈ fp, H9 b = none := fun b hb => by
      obtain ⟨o, e, _⟩ := T.obj _ _ st7 b hb
      exact (pin' b hb o e).2
    refine seg_at (seg_yield rfl rfl rfl ⟨i, H9, by omega, rfl, I10, pv9, fun gs hgs => ?_⟩)
    exact seg_again rfl (ih (i + 1) _ _ H9 (by omega) (inv_gens I10 hgs) st10 nf10 pv9)

theorem seg_gxStart {X' : Cx} {A : Around} {R : GenEnd} {Y : Protocol} {n : Nat} {s₀ s : Shared} {elt tg iter : Expr} {scope : Scope} {pos : Pos} {it : Addr} {fp : List Addr} {J : It} {tn : Nat → Heap → Prop} {env : Env} {i : Nat}
    (T : Turn X'.prog X'.w X'.K tg J fp it tn) (st : tn i s.heap)
    (loop : Seg (model X'.prog X'.w) A R Y n s₀ (.compLoop (.GeneratorExp elt [⟨tg, iter, [], 0⟩] scope pos) 0 (.ref it) .none env)
        ((model X'.prog X'.w).den (.compLoop (.GeneratorExp elt [⟨tg, iter, [], 0⟩] scope pos) 0 (.ref it) .none env)) [] s) :
    Seg (model X'.prog X'.w) A R Y n s₀ (.compStart (.GeneratorExp elt [⟨tg, iter, [], 0⟩] scope pos) 0 (.ref it) .none env)
        ((model X'.prog X'.w).den (.compStart (.GeneratorExp elt [⟨tg, iter, [], 0⟩] scope pos) 0 (.ref it) .none env)) [] s := by
  show Seg _ A _ _ _ s₀ _ ((compStart (.GeneratorExp elt [⟨tg, iter, [], 0⟩] scope pos) 0 (.ref it) .none env).onRaise (leaving env)) [] s
  unfold compStart
  rw [Sem.onRaise_eq_wrap]
  show Seg _ A _ _ _ s₀ _ ((ask >>= _).wrap _ _ _ _) [] s
  refine seg_bind_wrap (wpAny_askSetting ?_)
  split
  · exact seg_again rfl loop
  · first
      | exact seg_bind_wrap (wpAny_rule (seg_bind_wrap (wpAny_standAt (seg_bind_wrap (T.self _ i s _ _ st (seg_again rfl loop))))))
      | (refine seg_bind_wrap (wpAny_rule ?_); show Seg _ A _ _ _ s₀ _ ((standAt iter.pos >>= _).wrap _ _ _ _) [] s; exact seg_bind_wrap (wpAny_standAt (seg_bind_wrap (T.self _ i s _ _ st (seg_again rfl loop)))))
end

section
open GenW
/-- all's loop over such a generator -/
theorem code_all_gx {X' : Cx} {A : Around} {Rr : Result → Shared → Prop} {σ0 : L2.St} {Pv : Nat → Hp → Prop} {pb : Nat → Bool} {L : Nat} {a : Addr} {gi : Nat}
    (hh : A.handled = none) (hd : A.depth < recursionLimit) (isg : ∀ {H' : Hp} {s' : Shared}, Inv X' [] σ0 H' s' → s'.heap.IsGen a gi)
    (hend : ∀ H' s', (∀ j, j < L → pb j = true) → Inv X' [] σ0 H' s' → Pv L H' → Rr (.ok (.ret (.bool true))) s')
    (hcut : ∀ i H' s', i < L → pb i = false → Inv X' [] σ0 H' s' → Pv (i + 1) H' → Rr (.ok (.ret (.bool false))) s') :
    ∀ (n i : Nat) (s : Shared) (H : Hp), n + i = L → (∀ j, j < i → pb j = true) → Inv X' [] σ0 H s →
      (∃ gs, s.gens[gi]? = some gs ∧ gs.Goes (model X'.prog X'.w) A.in1.in1 (fun n s₀ r s₁ => r = .ok .next ∧ GxE X' σ0 Pv L n s₀ s₁) (GxY X' σ0 Pv pb L) n (.send .none) (s.setGen gi .running)) →
      codeAny (model X'.prog X'.w) A (.builtin "all.loop" ⟨[.ref a], []⟩) Rr s := by
  have fin : ∀ {H' : Hp} {s₁ : Shared} {h' : Heap}, Inv X' [] σ0 H' s₁ → (∀ b o, s₁.heap.get? b = some o → h'.get? b = some o) → Inv X' [] σ0 H' { s₁.setGen gi .finished with heap := h' } := fun {H' s₁ h'} I k =>
    inv_more (s := s₁.setGen gi .finished) (gs := (s₁.setGen gi .finished).gens) (inv_gens (gs := (s₁.setGen gi .finished).gens) I (allBare_setGen I.bare rfl)) (allBare_setGen I.bare rfl) k
  intro n
  induction n with
  | zero =>
    intro i s H hi hp I ⟨gs, hgs, hgo⟩
    have hi : i = L := by omega
    subst hi
    refine codeAny_builtin F.entry_all_loop ?_
    rw [Around.under_plainId F.plain_all_loop _]
    show wpAny _ A.in1 (pyNext (.ref a) >>= _) _ _ s
    refine wpAny_bind (wpAny_pyNext_genexpQ (A := A.in1) hh I.nolimit hd (isg I) hgs hgo (fun v s₁ gs' hb hv => ?_) (fun s₁ hq h' hk => ?_))
    · obtain ⟨i', H', _, _, I', _, kap⟩ := hv
      exact False.elim (kap s₁.gens I'.bare)
    · obtain ⟨_, H', I', pv⟩ := hq
      exact wpAny_bind (wpAny_rule (wpAny_pure (hend H' _ hp (fin I' hk) pv)))
  | succ n ih =>
    intro i s H hi hp I ⟨gs, hgs, hgo⟩
    have hgl : gi < s.gens.size := (Array.getElem?_eq_some_iff.mp hgs).1
    refine codeAny_builtin F.entry_all_loop ?_
    rw [Around.under_plainId F.plain_all_loop _]
    show wpAny _ A.in1 (pyNext (.ref a) >>= _) _ _ s
    refine wpAny_bind (wpAny_gsz (n := gi + 1) hgl (wpAny_pyNext_genexpQ (A := A.in1) hh I.nolimit hd (isg I) hgs hgo (fun v s₁ gs' hb hv hsz => ?_) (fun s₁ hq h' hk => ?_)))
    · obtain ⟨i', H', hn, ev, I', pv, kap⟩ := hv
      have ei : i' = i := by omega
      subst ei
      subst ev
      have hsz1 : gi < s₁.gens.size := by
        have q : (s₁.setGen gi gs').gens.size = s₁.gens.size := setGen_size _ _ _
        have hsz' : gi + 1 ≤ (s₁.setGen gi gs').gens.size := hsz
        omega
      have I2 : Inv X' [] σ0 H' (s₁.setGen gi gs') := inv_gens (gs := (s₁.setGen gi gs').gens) I' (allBare_setGen I'.bare hb)
      refine wpAny_bind (wpAny_holding (wpAny_truthy_bool ?_))
      refine wpAny_bind (wpAny_letGo ?_)
      cases hb2 : pb i' with
      | true =>
        simp only [if_true]
        refine wpAny_pure ⟨plainId_quiet F.plain_all_loop _, ih (i' + 1) _ H' (by omega) (fun j hj => ?_) I2 ⟨gs', setGen_at hsz1, ?_⟩⟩
        · by_cases e : j = i'
          · rw [e]; exact hb2
          · exact hp j (by omega)
        · exact kap ((s₁.setGen gi gs').setGen gi .running).gens (allBare_setGen (allBare_setGen I'.bare hb) rfl)
      | false =>
        simp only [Bool.false_eq_true, if_false]
        exact wpAny_bind (wpAny_rule (wpAny_pure (hcut i' H' _ (by omega) hb2 I2 pv)))
    · obtain ⟨h0, _⟩ := hq
      cases h0
variable {X : Cx}
/-- all(elt for tg in iter): P the def's table; L turns, pb what each hands out, Pv what holds ahead of each -/
def tAllG (wi : TI) (g : TG) (te : TE) (vs : List Nat) (P : Addr) : TE := fun σ H Q => wi σ H fun J H1 => GxR.TabG H1 P ∧ ∀ H2, GxR.Tabbed P H1 H2 → ∃ (L : Nat) (pb : Nat → Bool) (Pv : Nat → Hp → Prop),
  Pv 0 H2 ∧ (∀ i H, i < L → Pv i H → J.go i H) ∧ (∀ H, Pv L H → J.stop L H) ∧
  (∀ i x H H', i < L → Pv i H → J.yld i H x H' → g x (wipe σ vs) H' fun σ2 H2 => wipe σ2 vs = wipe σ vs ∧ te σ2 H2 fun v H3 => v = .bl (pb i) ∧ Pv (i + 1) H3) ∧
  (∀ i H, i < L → pb i = false → Pv (i + 1) H → Q (.bl false) H) ∧ (∀ H, (∀ j, j < L → pb j = true) → Pv L H → Q (.bl true) H)
theorem pe_allG {c P : Addr} {elt tg iter : Expr} {p pos gpos : Pos} {scope : Scope} {own : List (Str × Nat)} {wi : TI} {g : TG} {te : TE} {k : Nat}
    (hr : Room (k + 1) X.A) (hc : X.calm = true) (hN : X.N.Nodup) (hgl : Gl X "all") (hm : X.mg "all" = none) (hb : bootBuiltins "all" = some (.builtin "all")) (TB : GxR.TabB X.base X.mg c P) (hcode : X.env.code = .ref c)
    (ok : BlkOk X.N X.env.scope scope own) (hco : scope.isCoroutine = false) (hcell : ∀ y ∈ scope.names, y.2 ≠ .cell) (hdot : scope.names.lookup (".0" : Str) = some NameKind.local) (hi : PI X tg iter wi)
    (hg : ∀ (s : Shared) (H : Hp) (C : Addr) (code : Value) (fp : List Addr) (Ag : Around) (pn : List (Addr × Obj)), PG (gxX X s H (gxEnv X scope C code) fp Ag pn) tg g)
    (he : ∀ (s : Shared) (H : Hp) (C : Addr) (code : Value) (fp : List Addr) (Ag : Around) (pn : List (Addr × Obj)), Room k Ag → PE (gxX X s H (gxEnv X scope C code) fp Ag pn) elt te)
    (hs : ∀ v, genFold iter X.env v = pure v)
    (hse : starEach [.GeneratorExp elt [⟨tg, iter, [], 0⟩] scope gpos] X.env = (false, eval (.GeneratorExp elt [⟨tg, iter, [], 0⟩] scope gpos) X.env) :: starEach [] X.env := by rfl) :
    PE X (.Call (.Name "all" p) [.GeneratorExp elt [⟨tg, iter, [], 0⟩] scope gpos] [] pos) (tAllG wi g te (own.map (·.2)) P) := by
  refine ⟨fun pins s σ H Q I h => ?_⟩
  refine wpAny_Call_Name_kw (ld_blt I hgl hm hb ?_)
  refine PyProof.Rows.callWith_builtin1 ?_ hse (by rfl)
  rw [hse]
  show wpAny _ _ (spliced ((false, eval (.GeneratorExp elt [⟨tg, iter, [], 0⟩] scope gpos) X.env) :: backTo pos (starEach [] X.env))) _ _ s
  refine Calls.spliced_cons ?_
  have hfree : ∀ y ∈ scope.names, y.2 = .free → ∃ c, X.env.cells.lookup y.1 = some c := fun y hy e => by
    rcases ok.free y hy e with k | k
    · exact I.ok.has _ (.inl k)
    · exact I.ok.has _ (.inr k)
  refine wpAny_GeneratorExp_make hco (closure_ok hfree) hcell hdot ok.kind hr.depth ?_ hs
  refine thn (hi.run pins s σ H _ I h) fun xv s1 hx => thn hx fun itv s2 h2 => ?_
  obtain ⟨it, fp, tn, J, H2, e, I2, T, st2, f2, ⟨ps, hP, ht⟩, q⟩ := h2
  subst e
  refine ⟨I2.nolimit, ?_⟩
  have hPs : s2.heap.get? P = some { cls := .none, data := .fields ps } := I2.hok P _ hP
  have cd : PySem.W.CodeHd s2.heap c P := TB.code.keeps fun b u e => I2.bk b u e
  have fpP : ∀ b ∈ fp, b ≠ P := fun b hb z => by
    have q := (f2 b hb).1
    rw [z, hP] at q
    cases q
  have cont : ∀ (code : Value) (h3 : Heap) (tk : Nat) (ps' : Array Value), Heap.ExtBut P s2.heap h3 → h3.get? P = some { cls := .none, data := .fields ps' } → (∃ more, ps' = ps ++ more) → TriplesOk ps'.toList →
      wpAny (model X.prog X.w) X.A (builtinsFor X.env.globals X.env.builtins) (fun bi s₄ =>
        ∀ h', h'.Ns s₄.heap.objs.size (fun y => if y = (".0" : Str) then some (.ref it) else none) → Heap.SameBut s₄.heap.objs.size (s₄.heap.push { cls := .type "frame", data := .dict #[] }) h' →
          wpAny (model X.prog X.w) X.A (spliced (backTo pos (starEach [] X.env))) (fun vs s' => wpAny (model X.prog X.w) X.A (call (.builtin "all") ([] ++ (.ref h'.objs.size :: vs))) (EP X pins σ Q) X.xe s') X.xe { s₄ with
            gens := s₄.gens.push (.fresh (.compStart (.GeneratorExp elt [⟨tg, iter, [], 0⟩] scope gpos) 0 (.ref it) .none (genEnv scope (cloFrom X.env.cells scope.names []) s₄.heap.objs.size code bi X.env))),
            toks := s₄.toks + 1 + 1 + 1,
            heap := h'.push { cls := .type "generator", data := .fields #[.int s₄.gens.size 0, .str "<genexpr>" (s₄.toks + 1), .str (X.env.qual ++ "<genexpr>") (s₄.toks + 1 + 1)] } }) X.xe { s2 with heap := h3, toks := tk } := by
    intro code h3 tk ps' hx hP3 hmore ht3
    obtain ⟨more, rfl⟩ := hmore
    obtain ⟨bm, ob, e1, e2, e3, e4, e5, e6, e7, e8⟩ := TB.bm
    have keep3 : ∀ b u, b ≠ P → s2.heap.get? b = some u → h3.get? b = some u := fun b u hb e => hx b u hb e
    refine wpAny_builtinsFor (m := X.mg) (by rw [I2.ok.glob]; exact (I2.mod.glob.keeps I2.bk).extBut hx TB.gP) e1 e2 (keep3 _ _ e4 (I2.bk _ _ e5)) e6 e7 e8 ?_
    intro h' hn' hs'
    have I3 : Inv X pins σ (upd H2 P (.tbl (ps ++ more))) { s2 with heap := h3, toks := tk } := GxR.inv_tab (more := more) (h' := h3) (g' := s2.gens) (d' := s2.drawn) (t' := tk) I2 hP keep3 hP3 I2.bare
    have hT : GxR.Tabbed P H2 (upd H2 P (.tbl (ps ++ more))) := ⟨⟨ps ++ more, upd_same, ht3⟩, fun b hb => upd_ne hb⟩
    obtain ⟨L, pb, Pv, p0, pgo, pstop, pstep, pcut, pend⟩ := q _ hT
    generalize upd H2 P (.tbl (ps ++ more)) = H3 at I3 hT p0
    have f3 : ∀ b ∈ fp, FpOk X pins H3 b ∧ b < h3.objs.size := fun b hb => by
      refine ⟨⟨by rw [hT.2 b (fpP b hb)]; exact (f2 b hb).1, (f2 b hb).2⟩, ?_⟩
      obtain ⟨o, e, _⟩ := T.obj _ _ st2 b hb
      exact Heap.lt_size (keep3 b o (fpP b hb) e)
    have st3 : tn 0 h3 := T.keep _ _ _ st2 fun b hb o e => keep3 b o (fpP b hb) e
    have hsz : h'.objs.size = h3.objs.size + 1 := by
      have z : h'.objs.size = (h3.push { cls := .type "frame", data := .dict #[] }).objs.size := hs'.1
      rw [Heap.size_push] at z
      exact z
    have kp : ∀ (go : Obj) b o, h3.get? b = some o → (h'.push go).get? b = some o := fun go b o e => Heap.get?_push_of_some _ (hs'.extBut b o (Nat.ne_of_lt (Heap.lt_size e)) (Heap.get?_push_of_some _ e))
    refine Calls.spliced_nil ?_
    show wpAny _ X.A (call (.builtin "all") [.ref h'.objs.size]) _ _ _
    have hroom : Room k (X.A.in1.in1.over (.compLoop (.GeneratorExp elt [⟨tg, iter, [], 0⟩] scope gpos) 0 (.ref it) .none (gxEnv X scope h3.objs.size code)) []) :=
      ⟨hr.hd, by have := hr.dp; show X.A.depth + 0 + 1 + 3 * k + 5 < _; omega, by have := hr.un; show X.A.units + 1 + 1 + 0 + 3 + 16 * k + 200 < _; omega⟩
    have hfrm : (X.A.in1.in1.over (.compLoop (.GeneratorExp elt [⟨tg, iter, [], 0⟩] scope gpos) 0 (.ref it) .none (gxEnv X scope h3.objs.size code)) []).frames = some (gxEnv X scope h3.objs.size code :: X.stack) := by
      have z := I2.ok.frames
      unfold Around.over
      dsimp only
      rw [z]
      rfl
    have main : ∀ (go : Obj) (nm qn : Value) (tk5 : Nat), go.cls = .type "generator" → go.data = .fields #[.int s2.gens.size 0, nm, qn] → go.slots = #[] → go.isFreed = false →
        wpAny (model X.prog X.w) X.A (call (.builtin "all") [.ref h'.objs.size]) (EP X pins σ Q) X.xe { s2 with
          gens := s2.gens.push (.fresh (.compStart (.GeneratorExp elt [⟨tg, iter, [], 0⟩] scope gpos) 0 (.ref it) .none (gxEnv X scope h3.objs.size code))), toks := tk5, heap := h'.push go } := by
      intro go nm qn tk5 hgc hgd hgs hgf
      have hgo : (h'.push go).get? h'.objs.size = some go := Heap.get?_push_size _ hgf
      have I5 := gx_start (a := h'.objs.size) (go := go) (h5 := h'.push go) (tk := tk5) (gs := s2.gens.push (.fresh (.compStart (.GeneratorExp elt [⟨tg, iter, [], 0⟩] scope gpos) 0 (.ref it) .none (gxEnv X scope h3.objs.size code)))) (it := .ref it) (fp := fp) (code := code)
        I3 ok hcell hN f3 hroom.hd hfrm (kp go) (hn'.push _) hgo (by show h3.objs.size < h'.objs.size; omega) (fun v z => by rw [hgd] at z; cases z) (I2.bare.push rfl)
      have isg : ∀ {H' : Hp} {s' : Shared}, Inv (gxX X { s2 with heap := h3, toks := tk } H3 (gxEnv X scope h3.objs.size code) fp (X.A.in1.in1.over (.compLoop (.GeneratorExp elt [⟨tg, iter, [], 0⟩] scope gpos) 0 (.ref it) .none (gxEnv X scope h3.objs.size code)) []) [(h'.objs.size, go)]) [] (wipe σ (own.map (·.2))) H' s' → s'.heap.IsGen h'.objs.size s2.gens.size := fun {H' s'} I' =>
        ⟨go, nm, qn, (I'.pin (h'.objs.size, go) (List.mem_append_left _ (List.mem_singleton.mpr rfl))).1, hgc, hgd, hgs⟩
      have back : ∀ {H' : Hp} {s' : Shared}, Inv (gxX X { s2 with heap := h3, toks := tk } H3 (gxEnv X scope h3.objs.size code) fp (X.A.in1.in1.over (.compLoop (.GeneratorExp elt [⟨tg, iter, [], 0⟩] scope gpos) 0 (.ref it) .none (gxEnv X scope h3.objs.size code)) []) [(h'.objs.size, go)]) [] (wipe σ (own.map (·.2))) H' s' → Inv X pins σ H' s' := fun {H' s'} I' =>
        I3.call' (ch := fp) I'.os I'.base I'.hok I'.bare fun b hb => ⟨(f3 b hb).1.2.2.2.1, (f3 b hb).1.2.1, (f3 b hb).1.2.2.2.2.1, (f3 b hb).1.2.2.2.2.2⟩
      refine call_function_tree F.kind_all F.plain_all F.entry_all (F.args_all1 _) ?_
      unfold Builtin.«all»
      refine wpAny_bind (m := oneArg "all" _) (wpAny_pure ?_)
      refine wpAny_bind (wpAny_pyIter_gen (isg I5) ?_)
      refine wpAny_pure ⟨plainId_quiet F.plain_all_loop _, code_all_gx (Pv := Pv) (pb := pb) (L := L) hr.hd hr.depth isg (fun H' s' ha I' pv => ?_) (fun i H' s' hi hb I' pv => ?_) L 0 _ H3 rfl (fun j hj => absurd hj (Nat.not_lt_zero j)) I5 ⟨_, Array.getElem?_push_size .., rfl, ?_⟩⟩
      · exact ⟨.bl true, H', back I', rfl, pend H' ha pv⟩
      · exact ⟨.bl false, H', back I', rfl, pcut i H' hi hb pv⟩
      · have I6 := inv_gens (gs := (Shared.setGen { s2 with gens := s2.gens.push (.fresh (.compStart (.GeneratorExp elt [⟨tg, iter, [], 0⟩] scope gpos) 0 (.ref it) .none (gxEnv X scope h3.objs.size code))), toks := tk5, heap := h'.push go } s2.gens.size .running).gens) I5 (allBare_setGen I5.bare rfl)
        have st5 : tn 0 (h'.push go) := T.keep _ _ _ st3 fun b hb o e => kp go b o e
        refine seg_gxStart (X' := gxX X { s2 with heap := h3, toks := tk } H3 (gxEnv X scope h3.objs.size code) fp (X.A.in1.in1.over (.compLoop (.GeneratorExp elt [⟨tg, iter, [], 0⟩] scope gpos) 0 (.ref it) .none (gxEnv X scope h3.objs.size code)) []) [(h'.objs.size, go)]) (i := 0) T st5 ?_
        exact seg_gxLoop (X' := gxX X { s2 with heap := h3, toks := tk } H3 (gxEnv X scope h3.objs.size code) fp (X.A.in1.in1.over (.compLoop (.GeneratorExp elt [⟨tg, iter, [], 0⟩] scope gpos) 0 (.ref it) .none (gxEnv X scope h3.objs.size code)) []) [(h'.objs.size, go)])
          rfl rfl rfl rfl (fun p hp hb => by
            rw [List.mem_singleton.mp hp] at hb
            have z : h'.objs.size < h3.objs.size := (f3 _ hb).2
            omega) hco T (hg _ _ _ _ _ _ _) (he _ _ _ _ _ _ _ hroom) pgo pstop pstep L 0 _ _ H3 rfl I6 st5 (fun b hb => (f3 b hb).1.1) p0
    exact main _ _ _ _ rfl rfl rfl rfl
  cases hf : codeAmong gpos ps.toList with
  | none =>
    refine wpAny_genexprCodeX hcode (cd.code hPs ht) (cd.tab hPs) hf fun c' h' tk hx hge hlt hco' _ htab' _ => ?_
    obtain ⟨o1, vs, f1, tf, fl, tg, inF, tx, tt, op, _, _, _, _, _, _, _, _, _, htr, _⟩ := hco'
    exact cont _ h' tk _ hx htab'.2 ⟨_, rfl⟩ htr
  | some cv =>
    refine wpAny_genexprCode_hit hcode (cd.code hPs ht) hf ?_
    exact cont cv s2.heap s2.toks ps (Heap.ExtBut.refl _ _) hPs ⟨#[], by simp⟩ ht
end

section
open GenW
/-- any's loop over such a generator -/
theorem code_any_gx {X' : Cx} {A : Around} {Rr : Result → Shared → Prop} {σ0 : L2.St} {Pv : Nat → Hp → Prop} {pb : Nat → Bool} {L : Nat} {a : Addr} {gi : Nat}
    (hh : A.handled = none) (hd : A.depth < recursionLimit) (isg : ∀ {H' : Hp} {s' : Shared}, Inv X' [] σ0 H' s' → s'.heap.IsGen a gi)
    (hend : ∀ H' s', (∀ j, j < L → pb j = false) → Inv X' [] σ0 H' s' → Pv L H' → Rr (.ok (.ret (.bool false))) s')
    (hcut : ∀ i H' s', i < L → pb i = true → Inv X' [] σ0 H' s' → Pv (i + 1) H' → Rr (.ok (.ret (.bool true))) s') :
    ∀ (n i : Nat) (s : Shared) (H : Hp), n + i = L → (∀ j, j < i → pb j = false) → Inv X' [] σ0 H s →
      (∃ gs, s.gens[gi]? = some gs ∧ gs.Goes (model X'.prog X'.w) A.in1.in1 (fun n s₀ r s₁ => r = .ok .next ∧ GxE X' σ0 Pv L n s₀ s₁) (GxY X' σ0 Pv pb L) n (.send .none) (s.setGen gi .running)) →
      codeAny (model X'.prog X'.w) A (.builtin "any.loop" ⟨[.ref a], []⟩) Rr s := by
  have fin : ∀ {H' : Hp} {s₁ : Shared} {h' : Heap}, Inv X' [] σ0 H' s₁ → (∀ b o, s₁.heap.get? b = some o → h'.get? b = some o) → Inv X' [] σ0 H' { s₁.setGen gi .finished with heap := h' } := fun {H' s₁ h'} I k =>
    inv_more (s := s₁.setGen gi .finished) (gs := (s₁.setGen gi .finished).gens) (inv_gens (gs := (s₁.setGen gi .finished).gens) I (allBare_setGen I.bare rfl)) (allBare_setGen I.bare rfl) k
  intro n
  induction n with
  | zero =>
    intro i s H hi hp I ⟨gs, hgs, hgo⟩
    have hi : i = L := by omega
    subst hi
    refine codeAny_builtin F.entry_any_loop ?_
    rw [Around.under_plainId F.plain_any_loop _]
    show wpAny _ A.in1 (pyNext (.ref a) >>= _) _ _ s
    refine wpAny_bind (wpAny_pyNext_genexpQ (A := A.in1) hh I.nolimit hd (isg I) hgs hgo (fun v s₁ gs' hb hv => ?_) (fun s₁ hq h' hk => ?_))
    · obtain ⟨i', H', _, _, I', _, kap⟩ := hv
      exact False.elim (kap s₁.gens I'.bare)
    · obtain ⟨_, H', I', pv⟩ := hq
      exact wpAny_bind (wpAny_rule (wpAny_pure (hend H' _ hp (fin I' hk) pv)))
  | succ n ih =>
    intro i s H hi hp I ⟨gs, hgs, hgo⟩
    have hgl : gi < s.gens.size := (Array.getElem?_eq_some_iff.mp hgs).1
    refine codeAny_builtin F.entry_any_loop ?_
    rw [Around.under_plainId F.plain_any_loop _]
    show wpAny _ A.in1 (pyNext (.ref a) >>= _) _ _ s
    refine wpAny_bind (wpAny_gsz (n := gi + 1) hgl (wpAny_pyNext_genexpQ (A := A.in1) hh I.nolimit hd (isg I) hgs hgo (fun v s₁ gs' hb hv hsz => ?_) (fun s₁ hq h' hk => ?_)))
    · obtain ⟨i', H', hn, ev, I', pv, kap⟩ := hv
      have ei : i' = i := by omega
      subst ei
      subst ev
      have hsz1 : gi < s₁.gens.size := by
        have q : (s₁.setGen gi gs').gens.size = s₁.gens.size := setGen_size _ _ _
        have hsz' : gi + 1 ≤ (s₁.setGen gi gs').gens.size := hsz
        omega
      have I2 : Inv X' [] σ0 H' (s₁.setGen gi gs') := inv_gens (gs := (s₁.setGen gi gs').gens) I' (allBare_setGen I'.bare hb)
      refine wpAny_bind (wpAny_holding (wpAny_truthy_bool ?_))
      refine wpAny_bind (wpAny_letGo ?_)
      cases hb2 : pb i' with
      | false =>
        simp only [Bool.false_eq_true, if_false]
        refine wpAny_pure ⟨plainId_quiet F.plain_any_loop _, ih (i' + 1) _ H' (by omega) (fun j hj => ?_) I2 ⟨gs', setGen_at hsz1, ?_⟩⟩
        · by_cases e : j = i'
          · rw [e]; exact hb2
          · exact hp j (by omega)
        · exact kap ((s₁.setGen gi gs').setGen gi .running).gens (allBare_setGen (allBare_setGen I'.bare hb) rfl)
      | true =>
        simp only [if_true]
        exact wpAny_bind (wpAny_rule (wpAny_pure (hcut i' H' _ (by omega) hb2 I2 pv)))
    · obtain ⟨h0, _⟩ := hq
      cases h0
variable {X : Cx}
/-- any(elt for tg in iter): P the def's table; L turns, pb what each hands out, Pv what holds ahead of each -/
def tAnyG (wi : TI) (g : TG) (te : TE) (vs : List Nat) (P : Addr) : TE := fun σ H Q => wi σ H fun J H1 => GxR.TabG H1 P ∧ ∀ H2, GxR.Tabbed P H1 H2 → ∃ (L : Nat) (pb : Nat → Bool) (Pv : Nat → Hp → Prop),
  Pv 0 H2 ∧ (∀ i H, i < L → Pv i H → J.go i H) ∧ (∀ H, Pv L H → J.stop L H) ∧
  (∀ i x H H', i < L → Pv i H → J.yld i H x H' → g x (wipe σ vs) H' fun σ2 H2 => wipe σ2 vs = wipe σ vs ∧ te σ2 H2 fun v H3 => v = .bl (pb i) ∧ Pv (i + 1) H3) ∧
  (∀ i H, i < L → pb i = true → Pv (i + 1) H → Q (.bl true) H) ∧ (∀ H, (∀ j, j < L → pb j = false) → Pv L H → Q (.bl false) H)
theorem pe_anyG {c P : Addr} {elt tg iter : Expr} {p pos gpos : Pos} {scope : Scope} {own : List (Str × Nat)} {wi : TI} {g : TG} {te : TE} {k : Nat}
    (hr : Room (k + 1) X.A) (hc : X.calm = true) (hN : X.N.Nodup) (hgl : Gl X "any") (hm : X.mg "any" = none) (hb : bootBuiltins "any" = some (.builtin "any")) (TB : GxR.TabB X.base X.mg c P) (hcode : X.env.code = .ref c)
    (ok : BlkOk X.N X.env.scope scope own) (hco : scope.isCoroutine = false) (hcell : ∀ y ∈ scope.names, y.2 ≠ .cell) (hdot : scope.names.lookup (".0" : Str) = some NameKind.local) (hi : PI X tg iter wi)
    (hg : ∀ (s : Shared) (H : Hp) (C : Addr) (code : Value) (fp : List Addr) (Ag : Around) (pn : List (Addr × Obj)), PG (gxX X s H (gxEnv X scope C code) fp Ag pn) tg g)
    (he : ∀ (s : Shared) (H : Hp) (C : Addr) (code : Value) (fp : List Addr) (Ag : Around) (pn : List (Addr × Obj)), Room k Ag → PE (gxX X s H (gxEnv X scope C code) fp Ag pn) elt te)
    (hs : ∀ v, genFold iter X.env v = pure v)
    (hse : starEach [.GeneratorExp elt [⟨tg, iter, [], 0⟩] scope gpos] X.env = (false, eval (.GeneratorExp elt [⟨tg, iter, [], 0⟩] scope gpos) X.env) :: starEach [] X.env := by rfl) :
    PE X (.Call (.Name "any" p) [.GeneratorExp elt [⟨tg, iter, [], 0⟩] scope gpos] [] pos) (tAnyG wi g te (own.map (·.2)) P) := by
  refine ⟨fun pins s σ H Q I h => ?_⟩
  refine wpAny_Call_Name_kw (ld_blt I hgl hm hb ?_)
  refine PyProof.Rows.callWith_builtin1 ?_ hse (by rfl)
  rw [hse]
  show wpAny _ _ (spliced ((false, eval (.GeneratorExp elt [⟨tg, iter, [], 0⟩] scope gpos) X.env) :: backTo pos (starEach [] X.env))) _ _ s
  refine Calls.spliced_cons ?_
  have hfree : ∀ y ∈ scope.names, y.2 = .free → ∃ c, X.env.cells.lookup y.1 = some c := fun y hy e => by
    rcases ok.free y hy e with k | k
    · exact I.ok.has _ (.inl k)
    · exact I.ok.has _ (.inr k)
  refine wpAny_GeneratorExp_make hco (closure_ok hfree) hcell hdot ok.kind hr.depth ?_ hs
  refine thn (hi.run pins s σ H _ I h) fun xv s1 hx => thn hx fun itv s2 h2 => ?_
  obtain ⟨it, fp, tn, J, H2, e, I2, T, st2, f2, ⟨ps, hP, ht⟩, q⟩ := h2
  subst e
  refine ⟨I2.nolimit, ?_⟩
  have hPs : s2.heap.get? P = some { cls := .none, data := .fields ps } := I2.hok P _ hP
  have cd : PySem.W.CodeHd s2.heap c P := TB.code.keeps fun b u e => I2.bk b u e
  have fpP : ∀ b ∈ fp, b ≠ P := fun b hb z => by
    have q := (f2 b hb).1
    rw [z, hP] at q
    cases q
  have cont : ∀ (code : Value) (h3 : Heap) (tk : Nat) (ps' : Array Value), Heap.ExtBut P s2.heap h3 → h3.get? P = some { cls := .none, data := .fields ps' } → (∃ more, ps' = ps ++ more) → TriplesOk ps'.toList →
      wpAny (model X.prog X.w) X.A (builtinsFor X.env.globals X.env.builtins) (fun bi s₄ =>
        ∀ h', h'.Ns s₄.heap.objs.size (fun y => if y = (".0" : Str) then some (.ref it) else none) → Heap.SameBut s₄.heap.objs.size (s₄.heap.push { cls := .type "frame", data := .dict #[] }) h' →
          wpAny (model X.prog X.w) X.A (spliced (backTo pos (starEach [] X.env))) (fun vs s' => wpAny (model X.prog X.w) X.A (call (.builtin "any") ([] ++ (.ref h'.objs.size :: vs))) (EP X pins σ Q) X.xe s') X.xe { s₄ with
            gens := s₄.gens.push (.fresh (.compStart (.GeneratorExp elt [⟨tg, iter, [], 0⟩] scope gpos) 0 (.ref it) .none (genEnv scope (cloFrom X.env.cells scope.names []) s₄.heap.objs.size code bi X.env))),
            toks := s₄.toks + 1 + 1 + 1,
            heap := h'.push { cls := .type "generator", data := .fields #[.int s₄.gens.size 0, .str "<genexpr>" (s₄.toks + 1), .str (X.env.qual ++ "<genexpr>") (s₄.toks + 1 + 1)] } }) X.xe { s2 with heap := h3, toks := tk } := by
    intro code h3 tk ps' hx hP3 hmore ht3
    obtain ⟨more, rfl⟩ := hmore
    obtain ⟨bm, ob, e1, e2, e3, e4, e5, e6, e7, e8⟩ := TB.bm
    have keep3 : ∀ b u, b ≠ P → s2.heap.get? b = some u → h3.get? b = some u := fun b u hb e => hx b u hb e
    refine wpAny_builtinsFor (m := X.mg) (by rw [I2.ok.glob]; exact (I2.mod.glob.keeps I2.bk).extBut hx TB.gP) e1 e2 (keep3 _ _ e4 (I2.bk _ _ e5)) e6 e7 e8 ?_
    intro h' hn' hs'
    have I3 : Inv X pins σ (upd H2 P (.tbl (ps ++ more))) { s2 with heap := h3, toks := tk } := GxR.inv_tab (more := more) (h' := h3) (g' := s2.gens) (d' := s2.drawn) (t' := tk) I2 hP keep3 hP3 I2.bare
    have hT : GxR.Tabbed P H2 (upd H2 P (.tbl (ps ++ more))) := ⟨⟨ps ++ more, upd_same, ht3⟩, fun b hb => upd_ne hb⟩
    obtain ⟨L, pb, Pv, p0, pgo, pstop, pstep, pcut, pend⟩ := q _ hT
    generalize upd H2 P (.tbl (ps ++ more)) = H3 at I3 hT p0
    have f3 : ∀ b ∈ fp, FpOk X pins H3 b ∧ b < h3.objs.size := fun b hb => by
      refine ⟨⟨by rw [hT.2 b (fpP b hb)]; exact (f2 b hb).1, (f2 b hb).2⟩, ?_⟩
      obtain ⟨o, e, _⟩ := T.obj _ _ st2 b hb
      exact Heap.lt_size (keep3 b o (fpP b hb) e)
    have st3 : tn 0 h3 := T.keep _ _ _ st2 fun b hb o e => keep3 b o (fpP b hb) e
    have hsz : h'.objs.size = h3.objs.size + 1 := by
      have z : h'.objs.size = (h3.push { cls := .type "frame", data := .dict #[] }).objs.size := hs'.1
      rw [Heap.size_push] at z
      exact z
    have kp : ∀ (go : Obj) b o, h3.get? b = some o → (h'.push go).get? b = some o := fun go b o e => Heap.get?_push_of_some _ (hs'.extBut b o (Nat.ne_of_lt (Heap.lt_size e)) (Heap.get?_push_of_some _ e))
    refine Calls.spliced_nil ?_
    show wpAny _ X.A (call (.builtin "any") [.ref h'.objs.size]) _ _ _
    have hroom : Room k (X.A.in1.in1.over (.compLoop (.GeneratorExp elt [⟨tg, iter, [], 0⟩] scope gpos) 0 (.ref it) .none (gxEnv X scope h3.objs.size code)) []) :=
      ⟨hr.hd, by have := hr.dp; show X.A.depth + 0 + 1 + 3 * k + 5 < _; omega, by have := hr.un; show X.A.units + 1 + 1 + 0 + 3 + 16 * k + 200 < _; omega⟩
    have hfrm : (X.A.in1.in1.over (.compLoop (.GeneratorExp elt [⟨tg, iter, [], 0⟩] scope gpos) 0 (.ref it) .none (gxEnv X scope h3.objs.size code)) []).frames = some (gxEnv X scope h3.objs.size code :: X.stack) := by
      have z := I2.ok.frames
      unfold Around.over
      dsimp only
      rw [z]
      rfl
    have main : ∀ (go : Obj) (nm qn : Value) (tk5 : Nat), go.cls = .type "generator" → go.data = .fields #[.int s2.gens.size 0, nm, qn] → go.slots = #[] → go.isFreed = false →
        wpAny (model X.prog X.w) X.A (call (.builtin "any") [.ref h'.objs.size]) (EP X pins σ Q) X.xe { s2 with
          gens := s2.gens.push (.fresh (.compStart (.GeneratorExp elt [⟨tg, iter, [], 0⟩] scope gpos) 0 (.ref it) .none (gxEnv X scope h3.objs.size code))), toks := tk5, heap := h'.push go } := by
      intro go nm qn tk5 hgc hgd hgs hgf
      have hgo : (h'.push go).get? h'.objs.size = some go := Heap.get?_push_size _ hgf
      have I5 := gx_start (a := h'.objs.size) (go := go) (h5 := h'.push go) (tk := tk5) (gs := s2.gens.push (.fresh (.compStart (.GeneratorExp elt [⟨tg, iter, [], 0⟩] scope gpos) 0 (.ref it) .none (gxEnv X scope h3.objs.size code)))) (it := .ref it) (fp := fp) (code := code)
        I3 ok hcell hN f3 hroom.hd hfrm (kp go) (hn'.push _) hgo (by show h3.objs.size < h'.objs.size; omega) (fun v z => by rw [hgd] at z; cases z) (I2.bare.push rfl)
      have isg : ∀ {H' : Hp} {s' : Shared}, Inv (gxX X { s2 with heap := h3, toks := tk } H3 (gxEnv X scope h3.objs.size code) fp (X.A.in1.in1.over (.compLoop (.GeneratorExp elt [⟨tg, iter, [], 0⟩] scope gpos) 0 (.ref it) .none (gxEnv X scope h3.objs.size code)) []) [(h'.objs.size, go)]) [] (wipe σ (own.map (·.2))) H' s' → s'.heap.IsGen h'.objs.size s2.gens.size := fun {H' s'} I' =>
        ⟨go, nm, qn, (I'.pin (h'.objs.size, go) (List.mem_append_left _ (List.mem_singleton.mpr rfl))).1, hgc, hgd, hgs⟩
      have back : ∀ {H' : Hp} {s' : Shared}, Inv (gxX X { s2 with heap := h3, toks := tk } H3 (gxEnv X scope h3.objs.size code) fp (X.A.in1.in1.over (.compLoop (.GeneratorExp elt [⟨tg, iter, [], 0⟩] scope gpos) 0 (.ref it) .none (gxEnv X scope h3.objs.size code)) []) [(h'.objs.size, go)]) [] (wipe σ (own.map (·.2))) H' s' → Inv X pins σ H' s' := fun {H' s'} I' =>
        I3.call' (ch := fp) I'.os I'.base I'.hok I'.bare fun b hb => ⟨(f3 b hb).1.2.2.2.1, (f3 b hb).1.2.1, (f3 b hb).1.2.2.2.2.1, (f3 b hb).1.2.2.2.2.2⟩
      refine call_function_tree F.kind_any F.plain_any F.entry_any (F.args_any1 _) ?_
      unfold Builtin.«any»
      refine wpAny_bind (m := oneArg "any" _) (wpAny_pure ?_)
      refine wpAny_bind (wpAny_pyIter_gen (isg I5) ?_)
      refine wpAny_pure ⟨plainId_quiet F.plain_any_loop _, code_any_gx (Pv := Pv) (pb := pb) (L := L) hr.hd hr.depth isg (fun H' s' ha I' pv => ?_) (fun i H' s' hi hb I' pv => ?_) L 0 _ H3 rfl (fun j hj => absurd hj (Nat.not_lt_zero j)) I5 ⟨_, Array.getElem?_push_size .., rfl, ?_⟩⟩
      · exact ⟨.bl false, H', back I', rfl, pend H' ha pv⟩
      · exact ⟨.bl true, H', back I', rfl, pcut i H' hi hb pv⟩
      · have I6 := inv_gens (gs := (Shared.setGen { s2 with gens := s2.gens.push (.fresh (.compStart (.GeneratorExp elt [⟨tg, iter, [], 0⟩] scope gpos) 0 (.ref it) .none (gxEnv X scope h3.objs.size code))), toks := tk5, heap := h'.push go } s2.gens.size .running).gens) I5 (allBare_setGen I5.bare rfl)
        have st5 : tn 0 (h'.push go) := T.keep _ _ _ st3 fun b hb o e => kp go b o e
        refine seg_gxStart (X' := gxX X { s2 with heap := h3, toks := tk } H3 (gxEnv X scope h3.objs.size code) fp (X.A.in1.in1.over (.compLoop (.GeneratorExp elt [⟨tg, iter, [], 0⟩] scope gpos) 0 (.ref it) .none (gxEnv X scope h3.objs.size code)) []) [(h'.objs.size, go)]) (i := 0) T st5 ?_
        exact seg_gxLoop (X' := gxX X { s2 with heap := h3, toks := tk } H3 (gxEnv X scope h3.objs.size code) fp (X.A.in1.in1.over (.compLoop (.GeneratorExp elt [⟨tg, iter, [], 0⟩] scope gpos) 0 (.ref it) .none (gxEnv X scope h3.objs.size code)) []) [(h'.objs.size, go)])
          rfl rfl rfl rfl (fun p hp hb => by
            rw [List.mem_singleton.mp hp] at hb
            have z : h'.objs.size < h3.objs.size := (f3 _ hb).2
            omega) hco T (hg _ _ _ _ _ _ _) (he _ _ _ _ _ _ _ hroom) pgo pstop pstep L 0 _ _ H3 rfl I6 st5 (fun b hb => (f3 b hb).1.1) p0
    exact main _ _ _ _ rfl rfl rfl rfl
  cases hf : codeAmong gpos ps.toList with
  | none =>
    refine wpAny_genexprCodeX hcode (cd.code hPs ht) (cd.tab hPs) hf fun c' h' tk hx hge hlt hco' _ htab' _ => ?_
    obtain ⟨o1, vs, f1, tf, fl, tg, inF, tx, tt, op, _, _, _, _, _, _, _, _, _, htr, _⟩ := hco'
    exact cont _ h' tk _ hx htab'.2 ⟨_, rfl⟩ htr
  | some cv =>
    refine wpAny_genexprCode_hit hcode (cd.code hPs ht) hf ?_
    exact cont cv s2.heap s2.toks ps (Heap.ExtBut.refl _ _) hPs ⟨#[], by simp⟩ ht
end

section
variable {P : Program} {w : World} {K : PySem.W.Frag} {mg : Str → Option Value} {base : Heap}
/-- the table of code objects at T is kept apart: all else stays -/
structure Grown (T : Addr) (H H' : Hp) : Prop where
  off : Off T H H'
  tab : GxR.TabG H' T
theorem Grown.trans {T : Addr} {H H' H2 : Hp} (a : Grown T H H') (b : Grown T H' H2) : Grown T H H2 := ⟨a.off.trans b.off, b.tab⟩
theorem Grown.of {T : Addr} {H H' : Hp} (t : GxR.TabG H T) (s : Same H H') : Grown T H H' := ⟨Off.of s, by
  obtain ⟨ps, e, o⟩ := t
  exact ⟨ps, s _ _ e, o⟩⟩
theorem Grown.tbd {T : Addr} {H H' : Hp} (t : GxR.Tabbed T H H') : Grown T H H' := ⟨fun q o n e => by rw [t.2 q n]; exact e, t.1⟩
theorem Grown.at {T : Addr} {H H' : Hp} (g : Grown T H H') (t : GxR.TabG H T) {q : Addr} {o : HO} (e : H q = some o) (n : ∀ ps, o ≠ .tbl ps) : H' q = some o := by
  refine g.off q o (fun z => ?_) e
  obtain ⟨ps, e2, _⟩ := t
  rw [z, e2] at e
  exact n ps (Option.some.inj e).symm
theorem Grown.lst {T : Addr} {H H' : Hp} (g : Grown T H H') (t : GxR.TabG H T) {q : Addr} {xs : List V} (e : H q = some (.lst xs)) : H' q = some (.lst xs) := g.at t e fun _ z => by cases z
mutual
theorem Dh.keep {H H' : Hp} (hl : ∀ q xs, H q = some (.lst xs) → H' q = some (.lst xs)) (ht : ∀ q xs, H q = some (.tup xs) → H' q = some (.tup xs)) : ∀ (d : PyData) (v : V), Dh H v d → Dh H' v d
  | .none, _, h => by cases h; exact .non
  | .bool b, _, h => by cases h; exact .bl b
  | .int i, _, h => by cases h; exact .int i
  | .str x, _, h => by cases h; exact .str x
  | .list ds, _, h => by
    cases h with
    | lst h1 h2 => exact .lst (hl _ _ h1) (DhAll.keep hl ht ds _ h2)
  | .tuple ds, _, h => by
    cases h with
    | tup h1 h2 => exact .tup (ht _ _ h1) (DhAll.keep hl ht ds _ h2)
  | .dict _, _, h => nomatch h
theorem DhAll.keep {H H' : Hp} (hl : ∀ q xs, H q = some (.lst xs) → H' q = some (.lst xs)) (ht : ∀ q xs, H q = some (.tup xs) → H' q = some (.tup xs)) : ∀ (ds : List PyData) (vs : List V), DhAll H vs ds → DhAll H' vs ds
  | [], _, h => by cases h; exact .nil
  | d :: ds, _, h => by
    cases h with
    | cons h1 h2 => exact .cons (Dh.keep hl ht d _ h1) (DhAll.keep hl ht ds _ h2)
end
theorem Dh.grown {T : Addr} {H H' : Hp} (g : Grown T H H') (t : GxR.TabG H T) {d : PyData} {v : V} (h : Dh H v d) : Dh H' v d :=
  Dh.keep (fun _ _ e => g.at t e fun _ z => by cases z) (fun _ _ e => g.at t e fun _ z => by cases z) d v h
/-- a low list of rows of one length, at most 36 -/
def LowD (p : Int) (d : PyData) : Prop := ∃ (n : Nat) (M : List Row) (ls : List Nat), d = dTab M ∧ n ≤ 36 ∧ Low p n M ls
open Classical in
noncomputable def lowB (p : Int) (d : PyData) : Bool := decide (LowD p d)
/-- how long the first row is -/
def n0 : List PyData → Nat
  | .list es :: _ => es.length
  | _ => 0
theorem dRow_inj {a b : Row} (h : dRow a = dRow b) : a = b := by
  have h1 : a.map PyData.int = b.map PyData.int := by injection h
  exact (List.map_inj_right (fun x y e => by injection e)).mp h1
theorem dTab_inj {A B : List Row} (h : A.map dRow = B.map dRow) : A = B := (List.map_inj_right fun _ _ e => dRow_inj e).mp h
/-- a list of rests is a row -/
theorem rests_row {p : Int} : ∀ {ds : List PyData}, ds.all (restB p) = true → ∃ m : Row, ds = m.map PyData.int ∧ ∀ x ∈ m, 0 ≤ x ∧ x < p
  | [], _ => ⟨[], rfl, fun x hx => by simp at hx⟩
  | d :: ds, h => by
    rw [List.all_cons, Bool.and_eq_true] at h
    obtain ⟨i, rfl, h0, h1⟩ := restB_inv h.1
    obtain ⟨m, rfl, hm⟩ := rests_row h.2
    refine ⟨i :: m, rfl, fun x hx => ?_⟩
    rcases List.mem_cons.mp hx with e | hx
    · rw [e]; exact ⟨h0, h1⟩
    · exact hm x hx
theorem restsB_row {p : Int} {d : PyData} (h : restsB p d = true) : ∃ m : Row, d = dRow m ∧ ∀ x ∈ m, 0 ≤ x ∧ x < p := by
  cases d with
  | list ds =>
    obtain ⟨m, rfl, hm⟩ := rests_row (p := p) h
    exact ⟨m, rfl, hm⟩
  | none => cases h
  | bool _ => cases h
  | int _ => cases h
  | str _ => cases h
  | tuple _ => cases h
  | dict _ => cases h
theorem n0_is {p : Int} {n : Nat} {M : List Row} {ls : List Nat} (h : Pre p n M ls) (hM : M ≠ []) : n0 (M.map dRow) = n := by
  cases M with
  | nil => exact absurd rfl hM
  | cons m M =>
    obtain ⟨l, hl⟩ := get_two h.len.symm (i := 0) (x := m) rfl
    have q := (h.row 0 m l rfl hl).1.len
    show (m.map PyData.int).length = n
    rw [List.length_map]
    exact q
/-- what a low list's row is -/
theorem lowD_at {p : Int} {ds : List PyData} {i : Nat} {e : PyData} (h : LowD p (.list ds)) (he : ds[i]? = some e) :
    n0 ds ≤ 36 ∧ ∃ M ls, ds = M.map dRow ∧ Low p (n0 ds) M ls ∧ ∃ m l, M[i]? = some m ∧ ls[i]? = some l ∧ e = dRow m ∧ Wf p (n0 ds) m ∧ l < n0 ds ∧ (∀ j, j < l → ent m j = 0) ∧ ent m l = 1 := by
  obtain ⟨n, M, ls, e1, hn, L⟩ := h
  have e1 : ds = M.map dRow := by injection e1
  subst e1
  obtain ⟨m, hm, rfl⟩ : ∃ m, M[i]? = some m ∧ e = dRow m := by
    rw [List.getElem?_map] at he
    cases q : M[i]? with
    | none => rw [q] at he; cases he
    | some m => rw [q] at he; exact ⟨m, rfl, (Option.some.inj he).symm⟩
  have hne : M ≠ [] := fun z => by rw [z] at hm; simp at hm
  have en := n0_is L.pre hne
  rw [en]
  obtain ⟨l, hl⟩ := get_two L.pre.len.symm hm
  obtain ⟨a, b, c, d⟩ := L.pre.row i m l hm hl
  exact ⟨hn, M, ls, rfl, L, m, l, hm, hl, rfl, a, b, c, d⟩
/-- of all rows told, whether each lead stands alone tells -/
theorem lowD_all {p : Int} {M : List Row} {ls : List Nat} (h : Pre p (n0 (M.map dRow)) M ls) (hn : n0 (M.map dRow) ≤ 36) : LowD p (dTab M) ↔ ∀ (k : Nat) m l, M[k]? = some m → ls[k]? = some l → cntL l M = 1 := by
  rw [h.low_iff]
  constructor
  · rintro ⟨n, N, ms, e, hn', L⟩
    have e : N = M := (dTab_inj (by injection e)).symm
    subst e
    by_cases c : N = []
    · subst c
      have : ls = [] := List.eq_nil_of_length_eq_zero h.len
      subst this
      exact nil_low
    · have en := n0_is L.pre c
      rw [en] at h ⊢
      rw [h.same L.pre]
      exact L
  · exact fun L => ⟨_, M, ls, rfl, hn, L⟩
open Classical in
theorem lowB_false {p : Int} {d : PyData} (h : ¬ LowD p d) : lowB p d = false := by
  unfold lowB
  exact decide_eq_false h
open Classical in
theorem lowB_iff {p : Int} {d : PyData} {c : Bool} (h : LowD p d ↔ c = true) : lowB p d = c := by
  unfold lowB
  by_cases q : LowD p d
  · rw [decide_eq_true q, h.mp q]
  · rw [decide_eq_false q]
    cases c with
    | false => rfl
    | true => exact absurd (h.mpr rfl) q
end

section
variable {P : Program} {w : World} {K : PySem.W.Frag} {mg : Str → Option Value} {base : Heap}
/-- a thing of bounded depth and bulk -/
structure Sb (n B : Nat) (d : PyData) : Prop where
  show_ : d.showable = true
  nod : d.hasDict = false
  dep : d.depth ≤ n
  short : d.leavesShort 100 = true
  bulk : d.bulk ≤ B
theorem sb_all {n B : Nat} : ∀ {ds : List PyData}, (∀ d ∈ ds, Sb n B d) → PyData.showableAll ds = true ∧ PyData.hasDictAll ds = false ∧ PyData.depthAll ds ≤ n ∧ PyData.leavesShortAll 100 ds = true ∧ PyData.bulkAll ds ≤ (B + 1) * ds.length
  | [], _ => ⟨rfl, rfl, Nat.zero_le _, rfl, Nat.le_refl _⟩
  | d :: ds, h => by
    obtain ⟨a1, a2, a3, a4, a5⟩ := sb_all (ds := ds) fun e he => h e (List.mem_cons_of_mem _ he)
    have s := h d List.mem_cons_self
    refine ⟨?_, ?_, ?_, ?_, ?_⟩
    · show (d.showable && PyData.showableAll ds) = true
      rw [s.show_, a1]
      rfl
    · show (d.hasDict || PyData.hasDictAll ds) = false
      rw [s.nod, a2]
      rfl
    · show max d.depth (PyData.depthAll ds) ≤ n
      have := s.dep
      omega
    · show (d.leavesShort 100 && PyData.leavesShortAll 100 ds) = true
      rw [s.short, a4]
      rfl
    · show d.bulk + 1 + PyData.bulkAll ds ≤ (B + 1) * (ds.length + 1)
      have := s.bulk
      have e : (B + 1) * (ds.length + 1) = (B + 1) * ds.length + (B + 1) := Nat.mul_succ _ _
      omega
theorem Sm.sb {n B : Nat} {d : PyData} (s : Sm n d) (h : d.bulk ≤ B) : Sb n B d := ⟨s.show_, s.nod, s.dep, s.short, h⟩
theorem Sb.mono {n m B C : Nat} {d : PyData} (s : Sb n B d) (h : n ≤ m) (h2 : B ≤ C) : Sb m C d := ⟨s.show_, s.nod, Nat.le_trans s.dep h, s.short, Nat.le_trans s.bulk h2⟩
theorem Sb.gd {n B : Nat} {d : PyData} (s : Sb n B d) (h : n ≤ 60) (h2 : B ≤ 10000) : Gd 60 d := ⟨s.show_, s.nod, Nat.le_trans s.dep h, s.short, Nat.le_trans s.bulk h2⟩
theorem sb_list {n B m : Nat} {ds : List PyData} (h : ∀ d ∈ ds, Sb n B d) (hl : ds.length ≤ m) : Sb (n + 1) ((B + 1) * m) (.list ds) := by
  obtain ⟨a1, a2, a3, a4, a5⟩ := sb_all h
  exact ⟨a1, a2, by show PyData.depthAll ds + 1 ≤ n + 1; omega, a4, by show PyData.bulkAll ds ≤ _; exact Nat.le_trans a5 (Nat.mul_le_mul_left _ hl)⟩
theorem sb_tup {n B m : Nat} {ds : List PyData} (h : ∀ d ∈ ds, Sb n B d) (hl : ds.length ≤ m) : Sb (n + 1) ((B + 1) * m) (.tuple ds) := by
  obtain ⟨a1, a2, a3, a4, a5⟩ := sb_all h
  exact ⟨a1, a2, by show PyData.depthAll ds + 1 ≤ n + 1; omega, a4, by show PyData.bulkAll ds ≤ _; exact Nat.le_trans a5 (Nat.mul_le_mul_left _ hl)⟩
/-- v is some thing of the kind -/
def Is (H : Hp) (n B : Nat) (v : V) : Prop := ∃ d, Dh H v d ∧ Sb n B d
theorem is_int {H : Hp} {n B : Nat} {i : Int} (h : i.natAbs < 10 ^ 60) : Is H n B (.int i) := ⟨_, .int i, ((sm_int h).mono (Nat.zero_le _)).sb (Nat.zero_le _)⟩
theorem is_small {H : Hp} {n B : Nat} {i : Int} (h0 : -1000 ≤ i) (h1 : i ≤ 1000) : Is H n B (.int i) := ⟨_, .int i, ((sm_small h0 h1).mono (Nat.zero_le _)).sb (Nat.zero_le _)⟩
theorem is_non {H : Hp} {n B : Nat} : Is H n B .non := ⟨_, .non, (sm_none.mono (Nat.zero_le _)).sb (Nat.zero_le _)⟩
theorem is_bl {H : Hp} {n B : Nat} (b : Bool) : Is H n B (.bl b) := ⟨_, .bl b, ((sm_bool b).mono (Nat.zero_le _)).sb (Nat.zero_le _)⟩
theorem Is.mono {H : Hp} {n m B C : Nat} {v : V} (h : Is H n B v) (a : n ≤ m) (b : B ≤ C) : Is H m C v := by
  obtain ⟨d, x, y⟩ := h
  exact ⟨d, x, y.mono a b⟩
theorem Is.same {H H' : Hp} {n B : Nat} {v : V} (h : Is H n B v) (s : Same H H') : Is H' n B v := by
  obtain ⟨d, x, y⟩ := h
  exact ⟨d, Dh.same s d v x, y⟩
theorem is_all {H : Hp} {n B : Nat} : ∀ {vs : List V}, (∀ v ∈ vs, Is H n B v) → ∃ ds, DhAll H vs ds ∧ ds.length = vs.length ∧ ∀ d ∈ ds, Sb n B d
  | [], _ => ⟨[], .nil, rfl, fun d hd => by simp at hd⟩
  | v :: vs, h => by
    obtain ⟨d, a, b⟩ := h v List.mem_cons_self
    obtain ⟨ds, a2, b2, c2⟩ := is_all (vs := vs) fun u hu => h u (List.mem_cons_of_mem _ hu)
    refine ⟨d :: ds, .cons a a2, by rw [List.length_cons, List.length_cons, b2], fun e he => ?_⟩
    rcases List.mem_cons.mp he with e1 | he
    · rw [e1]; exact b
    · exact c2 e he
theorem is_lst {H : Hp} {n B m : Nat} {q : Addr} {vs : List V} (h : H q = some (.lst vs)) (hv : ∀ v ∈ vs, Is H n B v) (hl : vs.length ≤ m) : Is H (n + 1) ((B + 1) * m) (.ref q) := by
  obtain ⟨ds, a, b, c⟩ := is_all hv
  exact ⟨.list ds, .lst h a, sb_list c (by rw [b]; exact hl)⟩
theorem is_tup {H : Hp} {n B m : Nat} {q : Addr} {vs : List V} (h : H q = some (.tup vs)) (hv : ∀ v ∈ vs, Is H n B v) (hl : vs.length ≤ m) : Is H (n + 1) ((B + 1) * m) (.ref q) := by
  obtain ⟨ds, a, b, c⟩ := is_all hv
  exact ⟨.tuple ds, .tup h a, sb_tup c (by rw [b]; exact hl)⟩
theorem is_row {H : Hp} {q : Addr} {r : Row} {p : Int} (h : IL H q r) (hp : p ≤ 11) (hr : ∀ x ∈ r, 0 ≤ x ∧ x < p) (hl : r.length ≤ 38) : Is H 2 76 (.ref q) := by
  refine (is_lst (n := 0) (B := 0) (m := 38) h (fun v hv => ?_) (by rw [List.length_map]; exact hl)).mono (by decide) (by decide)
  obtain ⟨x, hx, rfl⟩ := List.mem_map.mp hv
  have := hr x hx
  exact is_small (by omega) (by omega)
theorem tenK : (10 : Nat) ^ 60 = 1000000000000000000000000000000000000000000000000000000000000 := by decide +kernel
theorem ten18k : ((10 : Int) ^ ((18 : Int).toNat)) = 1000000000000000000 := by decide +kernel
theorem ten59k : ((10 : Int) ^ ((59 : Int).toNat)) = 100000000000000000000000000000000000000000000000000000000000 := by decide +kernel
theorem bgk {H H' : Hp} {a : Addr} {c : Nat} (b : Bg H a c) (s : Same H H') : Bg H' a c := by
  obtain ⟨x, y, h1, h2⟩ := b
  exact ⟨x, y, s _ _ h1, h2⟩
end

section
variable {P : Program} {w : World} {K : PySem.W.Frag} {mg : Str → Option Value} {base : Heap}
/-! the law's end where a def of the program makes a generator: its table of code objects stands at T -/
/-- the heap as the law finds it: the script, and the table, which is yet empty -/
noncomputable def scriptT (K : PySem.W.Frag) (a T : Addr) (o : Obj) (xs : List V) : Hp := fun b => if b = T then some (.tbl #[]) else scriptH K a o xs b
theorem lawT_at {mb : Str → Option Value} {fa a c T : Addr} {st : Shared} {vs : List Value} {ns : List Int}
    (inside : K.In st.heap) (glob : st.heap.Ns mainGlobals mg) (bltn : st.heap.Ns builtinsNs mb) (boot : ∀ x : Str, x ≠ "__name__" → mb x = bootBuiltins x) (free : st.heap.NoLimit) (gens : st.gens = #[])
    (tabl : st.heap.get? T = some { cls := .none, data := .fields #[] }) (notK : K.lookup T = none) (code : PySem.W.CodeHd st.heap c T)
    (mods : ∃ (m : Addr) (o : Obj), mg "__builtins__" = some (.ref m) ∧ m ≠ builtinsNs ∧ st.heap.get? m = some o ∧ o.cls = .type "module" ∧ o.dict = some builtinsNs ∧ o.data = .plain)
    (obj : st.heap.get? a = some { cls := .type "list", data := .seq vs.toArray }) (nums : IntsAre vs ns) (short : ns.length ≤ sizeLine)
    (go : ∀ (base : Heap) (H : Hp), K.In base → base.Ns mainGlobals mg → GxR.TabB base mg c T → Env0 P w K mg base callerA [] st H → GxR.TabG H T → SqL K H a (ns.map V.int) → codeAny (model P w) callerA (.call (.ref fa) ⟨[.ref a], []⟩) (CR CX0 [] P w H st (fun v _ => v = .bl true) fun _ _ _ => False) st) :
    codeAny (model P w) callerA (.call (.ref fa) ⟨[.ref a], []⟩) (fun r s' => r = .ok (.ret (.bool true)) ∧ OldK st.heap s'.heap ∧ s'.os = st.os ∧ AllBare s'.gens) st := by
  have vals : Vals (ns.map V.int) vs := vals_ints nums
  have many : vs.length = ns.length := nums.length
  have apart : a ≠ T := fun e => by
    rw [e, tabl] at obj
    have z : Data.fields #[] = Data.seq vs.toArray _ := congrArg Obj.data (Option.some.inj obj)
    cases z
  obtain ⟨H, hH⟩ : ∃ H, H = scriptT K a T { cls := .type "list", data := .seq vs.toArray } (ns.map V.int) := ⟨_, rfl⟩
  have atT : H T = some (.tbl #[]) := by
    rw [hH]
    exact if_pos rfl
  have other : ∀ {b : Addr}, b ≠ T → H b = scriptH K a { cls := .type "list", data := .seq vs.toArray } (ns.map V.int) b := fun {b} n => by
    rw [hH]
    exact if_neg n
  have off : ∀ {b : Addr}, b ≠ a → b ≠ T → H b = none := fun {b} n n2 => by
    rw [other n2]
    exact if_neg fun z => n z.1
  have own : ∀ b u, H b = some u → (b = T ∧ u = .tbl #[]) ∨ (b ≠ T ∧ b = a ∧ K.lookup a = none ∧ u = .frz { cls := .type "list", data := .seq vs.toArray } (.lst (ns.map V.int))) := fun b u z => by
    by_cases e : b = T
    · rw [e, atT] at z
      exact .inl ⟨e, (Option.some.inj z).symm⟩
    · rw [other e] at z
      unfold scriptH at z
      by_cases c : b = a ∧ K.lookup a = none
      · rw [if_pos c] at z
        exact .inr ⟨e, c.1, c.2, (Option.some.inj z).symm⟩
      · rw [if_neg c] at z
        cases z
  have hok : HOk P w H st.heap := fun b u z => by
    rcases own b u z with ⟨rfl, rfl⟩ | ⟨_, rfl, _, rfl⟩
    · exact tabl
    · exact ⟨obj, by rw [List.length_map]; exact short, vs, _, vals, obj⟩
  have script : SqL K H a (ns.map V.int) := by
    cases c : K.lookup a with
    | none => exact Or.inl (Or.inr ⟨{ cls := .type "list", data := .seq vs.toArray }, by rw [other apart]; exact if_pos ⟨rfl, c⟩⟩)
    | some o =>
      have same := inside a o c
      rw [obj] at same
      cases same
      exact Or.inr ⟨_, vs.toArray, _, c, rfl, rfl, rfl, by rw [List.size_toArray, many]; exact short, by simpa using vals⟩
  have kept : ∀ {b : Addr} {o : Obj}, st.heap.get? b = some o → H b = none → (hidT st.heap H).get? b = some o := fun z n => hidT_get z n
  -- what is neither a list nor a bare table is kept
  have plain : ∀ {b : Addr} {o : Obj}, st.heap.get? b = some o → (∀ xs n, o.data ≠ .seq xs n) → o.data ≠ .fields #[] → (hidT st.heap H).get? b = some o := fun {b o} z n1 n2 => kept z (off (fun e => by
    rw [e, obj] at z
    cases z
    exact n1 _ _ rfl) fun e => by
    rw [e, tabl] at z
    cases z
    exact n2 rfl)
  have dict : ∀ {b : Addr} {m : Str → Option Value}, st.heap.Ns b m → (hidT st.heap H).Ns b m := fun {b m} z => by
    obtain ⟨o, es, ep, z1, z2, z3⟩ := z
    refine ⟨o, es, ep, plain z1 (fun xs n e => ?_) fun e => ?_, z2, z3⟩
    · rw [z2] at e
      cases e
    · rw [z2] at e
      cases e
  have inBase : K.In (hidT st.heap H) := fun b o z => kept (inside b o z) (by
    cases c : H b with
    | none => rfl
    | some u =>
      rcases own b u c with ⟨rfl, _⟩ | ⟨_, rfl, c2, _⟩
      · rw [notK] at z
        cases z
      · rw [c2] at z
        cases z)
  have lim : (hidT st.heap H).NoLimit := by
    obtain ⟨m, z1, z2⟩ := free
    exact ⟨m, dict z1, z2⟩
  have mod : Mod K mg (hidT st.heap H) := ⟨inBase, dict glob, ⟨mb, dict bltn, boot⟩, lim⟩
  have noTab : ∀ {m : Addr} {o : Obj}, st.heap.get? m = some o → o.data = .plain → m ≠ T := fun {m o} z1 z2 e => by
    rw [e, tabl] at z1
    cases z1
    cases z2
  have tb : GxR.TabB (hidT st.heap H) mg c T := by
    refine ⟨?_, ?_, fun z => ?_⟩
    · obtain ⟨o, us, file, tf, flags, tg, inF, text, tt, e1, r1, r2, r3, rest⟩ := code
      refine ⟨o, us, file, tf, flags, tg, inF, text, tt, plain e1 (fun xs n e => ?_) fun e => ?_, r1, r2, r3, rest⟩
      · rw [r2] at e
        cases e
      · rw [r2] at e
        cases e
        simp at r3
    · obtain ⟨m, o, q1, q2, q3, q4, q5, q6⟩ := mods
      have nG : m ≠ mainGlobals := fun e => by
        obtain ⟨g, es, ep, g1, g2, _⟩ := glob
        rw [← e, q3] at g1
        cases g1
        rw [q6] at g2
        cases g2
      refine ⟨m, o, q1, q2, nG, noTab q3 q6, plain q3 (fun xs n e => ?_) fun e => ?_, q4, q5, q6⟩
      · rw [q6] at e
        cases e
      · rw [q6] at e
        cases e
    · obtain ⟨g, es, ep, g1, g2, _⟩ := glob
      rw [z, tabl] at g1
      cases g1
      cases g2
  have env0 : Env0 P w K mg (hidT st.heap H) callerA [] st H := { frames := rfl, mod := mod, bs := fun _ _ z => of_hidT z, bsz := Nat.le_of_eq (hidT_size _ _), funs := trivial, frf := fun b z => absurd (show b ∈ ([] : List Addr) from z) (by simp), hok := hok, bare := .of_eq gens }
  refine codeAny_mono (go _ H inBase (dict glob) tb env0 ⟨#[], atT, trivial⟩ script) ?_
  intro r s' out
  match r, out with
  | .ok (.ret u), out =>
    obtain ⟨v, H2, o1, o2, un, ok2, rel, (z : v = .bl true)⟩ := out
    subst z
    obtain rfl : u = Value.bool true := rel
    have same : ∀ b o, b ≠ T → st.heap.get? b = some o → s'.heap.get? b = some o := fun b o n z => by
      cases c : H b with
      | none => exact un.keep b o z c (fun q => absurd (show b ∈ ([] : List Addr) from q) (by simp)) (by simp)
      | some u =>
        rcases own b u c with ⟨e, _⟩ | ⟨_, rfl, _, rfl⟩
        · exact absurd e n
        · rw [obj] at z
          cases z
          exact (ok2 b _ (un.frzs b _ _ c)).1
    obtain ⟨more, g1⟩ := un.tbls T #[] atT
    have g2 := ok2 T _ g1
    refine ⟨rfl, ⟨fun b o z => ?_, fun b o z => ?_⟩, o1, o2⟩
    · by_cases e : b = T
      · rw [e] at z ⊢
        rw [tabl] at z
        cases z
        refine Or.inr (Or.inl ⟨(code.tab tabl).isCodeTable, rfl, #[], more, rfl, ?_⟩)
        have g3 : s'.heap.get? T = some { cls := .none, data := .fields (#[] ++ more) } := g2
        rw [g3]
      · exact Or.inl (same b o e z)
    · by_cases e : b = T
      · rw [e]
        exact ⟨_, g2⟩
      · exact ⟨o, same b o e z⟩
  | .ok .next, out => exact out.elim
  | .ok .brk, out => exact out.elim
  | .ok .cont, out => exact out.elim
  | .error e, out => exact False.elim out
def LwT (P : Program) (w : World) (K : PySem.W.Frag) (mg : Str → Option Value) (base : Heap) (fa T : Addr) : Prop := ∀ (st : Shared) (H : Hp) (a : Addr) (ns : List Int), ns.length ≤ 63 → Env0 P w K mg base callerA [] st H → GxR.TabG H T → SqL K H a (iv ns) →
  codeAny (model P w) callerA (.call (.ref fa) ⟨[.ref a], []⟩) (CR CX0 [] P w H st (fun v _ => v = .bl true) fun _ _ _ => False) st
theorem lawT_run {st : Stmt} {f T : Addr} {fd : FuncData} {N : List Str} (F : Fun K "law" "law" st f fd) (S : FnScope N ["_law_script"] (defScope st)) (hb : ∀ (s : Shared) (v : Value), BindsTo s fd ⟨[v], []⟩ [("_law_script", v)])
    (hbody : ∀ (cdv : Value) (s : Shared) (H : Hp) (a : Addr) (ns : List Int), ns.length ≤ 63 → GxR.TabG H T → SqL K H a (iv ns) → Room 6 (callerA.deeper (envOfC "law" (defScope st) s.heap.objs.size f cdv)) →
      ∃ t, PSs (cxOf CX0 P w K mg base N "law" (defScope st) f cdv callerA [] s H (fun _ _ _ => False)).nox (defBody st) t ∧ t { nx := fun _ _ => V.non = V.bl true, rt := fun v _ => v = V.bl true } (L2.start N [.ref a]) H) : LwT P w K mg base f T := by
  intro s H a ns hl e0 tb sq
  obtain ⟨oc, od, kV, doc, pm, an, cdv, ct, osl, rfl, lk, hcd⟩ := F.ex
  have room : Room 7 callerA := ⟨rfl, by decide, by decide⟩
  obtain ⟨t, walk, read⟩ := hbody cdv s H a ns hl tb sq (room.deeper _)
  exact run_at (ps := ["_law_script"]) (us := [.ref a]) (vs := [.ref a]) (Q := fun v _ => v = .bl true) (E := fun _ _ _ => False) lk hcd S room e0 (hb s (.ref a)) (.cons rfl .nil) rfl walk.nox read
theorem rec_of {q : Program} {x : Str} (h : ((PyProof.Rows.recsOf q).any fun e => e.name == x) = true) : ∃ d, (PyProof.Rows.recsOf q).find? (fun e => e.name == x) = some d := by
  cases c : (PyProof.Rows.recsOf q).find? (fun e => e.name == x) with
  | some d => exact ⟨d, rfl⟩
  | none =>
    obtain ⟨e, he, h2⟩ := List.any_eq_true.mp h
    exact absurd h2 (List.find?_eq_none.mp c e he)
theorem walkT_at {l : PySem.W.OpenLaw} {q : Program} {loose : List Str} {XP : (Str → Option Value) → Heap → Prop} {YP : World → Heap → Prop} {d : DefRec} {Kp : Params → PySem.W.Frag} (x : Str)
    (most : l.most = some 63) (plain : d.params.defaults = []) (inK : ∀ (w : World) (h : Heap), YP w h → (Kp w.params).In h) (told : ((PyProof.Rows.recsOf q).any fun e => e.name == x) = true)
    (go : ∀ (w : World) (mg : Str → Option Value) (fa : Addr) (h : Heap), (Kp w.params).In h → h.Ns mainGlobals mg → mg d.name = some (.ref fa) → ∃ c T : Addr, PySem.W.tabIn (Kp w.params) x = some (c, T) ∧ (Kp w.params).lookup T = none ∧ ∀ base : Heap, (Kp w.params).In base → base.Ns mainGlobals mg → GxR.TabB base mg c T → LwT l.prog w (Kp w.params) mg base fa T) :
    PySem.W.WalkO q loose XP YP l.row.toRowW d [] (fun f vs => PySem.call f vs) := by
  refine Att.attach_call most plain ?_
  intro w _ st mg mb fa _ _ _ _ a vs ns G Y _ _ _ named obj nums short gens
  have k := inK w _ Y
  obtain ⟨c, T, t1, t2, run⟩ := go w mg fa _ k G.T.g named
  obtain ⟨r, hr⟩ := rec_of told
  obtain ⟨cd, tb⟩ := PySem.W.tab_of G.T k hr t1
  refine lawT_at (mb := mb) k G.T.g G.T.b G.T.builtins G.T.nolimit gens tb t2 cd G.T.bmain obj nums (Nat.le_trans short (by rw [sizeLine_eq]; decide)) ?_
  intro base H inb nsb tbb env0 tg sq
  exact run base inb nsb tbb st H a ns short env0 tg sq
/-- where a def's table of code objects stands, from what the part keeps -/
theorem tab_mk {x : Str} {f c T : Addr} {fd : FuncData} {us : Array Value} {o1 o3 : Value} {o2 o4 : Option Addr} {s1 s2 : Array (Option Value)} (a : PySem.W.nsIn K mainGlobals x = some (some (.ref f))) (l : K.lookup f = some ⟨o1, o2, .func fd, s1⟩) (hc : fd.code = .ref c)
    (lc : K.lookup c = some ⟨o3, o4, .fields us, s2⟩) (hv : us[11]? = some (.ref T)) : PySem.W.tabIn K x = some (c, T) := by
  unfold PySem.W.tabIn
  simp only [a, l, hc, lc, hv]
end

def topS (i : Nat) : Stmt := PySem.Challenge.pw_stillspans_k02_low_known.main.body.getD i (.Pass ⟨0, 0, 0, 0⟩)
/-! ### is_whole -/
section
variable {P : Program} {w : World} {K : PySem.W.Frag} {mg : Str → Option Value} {base : Heap}
abbrev sIwh : Stmt := topS 1
theorem scIwh : FnScope ["thing"] ["thing"] (defScope sIwh) := ⟨rfl, rfl, rfl, by decide +kernel, rfl, by decide +kernel, by decide +kernel⟩
def wholeB : PyData → Bool
  | .int _ => true
  | _ => false
def spIwh : Sp := fun vs H Q _ => ∃ (v : V) (d : PyData), vs = [v] ∧ Dh H v d ∧ Q (.bl (wholeB d)) H
theorem ok_iwh {f : Addr} {fd : FuncData} {k : Nat} (F : Fun K "is_whole" "is_whole" sIwh f fd) (mi : mg "isinstance" = none) (mn : mg "int" = none) (mb : mg "bool" = none) : FnOk P w K mg base CX0 (k + 1) f fd ["thing"] spIwh := by
  refine F.ok scIwh (fun vs H Q E h => ?_) (fun cdv A outer s H vs Q E hr h => ?_)
  · obtain ⟨v, d, rfl, _⟩ := h
    rfl
  · obtain ⟨v, d, rfl, dh, q⟩ := h
    refine ⟨_, pss_one (ps_ret (pe_and (pe_callB call_isi (by rfl) mi (by decide +kernel) (pa_cons (pv 0) (pa_cons (pe_bltn (v := .ty "int") (by rfl) mn (by decide +kernel) rfl) pa_nil)))
      (pe_one (pe_not (pe_callB call_isi (by rfl) mi (by decide +kernel) (pa_cons (pv 0) (pa_cons (pe_bltn (v := .ty "bool") (by rfl) mb (by decide +kernel) rfl) pa_nil))))))), ?_⟩
    refine ⟨_, rfl, _, _, _, _, isID d, rfl, .ty "int", dh.ty, kitI d, isID d, rfl, ?_⟩
    cases dh with
    | int x =>
      refine iteT ?_
      refine ⟨_, rfl, _, _, _, _, false, rfl, .ty "bool", .base (.int x), kit_ty (by decide +kernel), false, rfl, q⟩
    | bl b =>
      refine iteT ?_
      refine ⟨_, rfl, _, _, _, _, true, rfl, .ty "bool", .base (.bl b), kit_ty (by decide +kernel), true, rfl, q⟩
    | non => exact iteF q
    | str x => exact iteF q
    | lst _ _ => exact iteF q
    | tup _ _ => exact iteF q
end

/-! ### is_below -/
section
variable {P : Program} {w : World} {K : PySem.W.Frag} {mg : Str → Option Value} {base : Heap}
abbrev sIbl : Stmt := topS 2
theorem scIbl : FnScope ["bound", "thing"] ["bound", "thing"] (defScope sIbl) := ⟨rfl, rfl, rfl, by decide +kernel, rfl, by decide +kernel, by decide +kernel⟩
def spIbl : Sp := fun vs H Q _ => ∃ (p : Int) (v : V) (d : PyData), vs = [.int p, v] ∧ Dh H v d ∧ Q (.bl (restB p d)) H
theorem ok_ibl {f fW : Addr} {fd fdW : FuncData} {k : Nat} (F : Fun K "is_below" "is_below" sIbl f fd)
    (GW : FnOk P w K mg base CX0 (k + 1) fW fdW ["thing"] spIwh) (bW : Binds K fdW ["thing"] []) (kW : PySem.W.keepIn K (.ref fW) = true) (mW : mg "is_whole" = some (.ref fW)) : FnOk P w K mg base CX0 (k + 2) f fd ["bound", "thing"] spIbl := by
  refine F.ok scIbl (fun vs H Q E h => ?_) (fun cdv A outer s H vs Q E hr h => ?_)
  · obtain ⟨p, v, d, rfl, _⟩ := h
    rfl
  · obtain ⟨p, v, d, rfl, dh, q⟩ := h
    refine ⟨_, pss_one (ps_ret (pe_and (pe_call GW hr (by rfl) mW kW bW .nil pass0 (pa_cons (pv 1) pa_nil))
        (pe_one (pe_chain op_le op_lt pe_int (pv 1) (pv 0))))), ?_⟩
    refine ⟨_, rfl, ⟨v, d, rfl, dh, ?_⟩⟩
    cases dh with
    | int x =>
      refine ⟨true, rfl, iteT ?_⟩
      refine ⟨_, rfl, _, _, rfl, rfl, decide (0 ≤ x), rfl, ?_⟩
      by_cases c : 0 ≤ x
      · rw [decide_eq_true c]
        refine iteT ?_
        refine ⟨_, rfl, _, _, rfl, rfl, ?_⟩
        have e2 : restB p (.int x) = decide (x < p) := decide_eq_decide.mpr ⟨fun z => z.2, fun z => ⟨c, z⟩⟩
        rw [e2] at q
        exact q
      · rw [decide_eq_false c]
        refine iteF ?_
        have e2 : restB p (.int x) = false := decide_eq_false fun z => c z.1
        rw [e2] at q
        exact q
    | bl b => exact ⟨false, rfl, iteF q⟩
    | non => exact ⟨false, rfl, iteF q⟩
    | str x => exact ⟨false, rfl, iteF q⟩
    | lst _ _ => exact ⟨false, rfl, iteF q⟩
    | tup _ _ => exact ⟨false, rfl, iteF q⟩
end

/-! ### is_rests -/
section
variable {P : Program} {w : World} {K : PySem.W.Frag} {mg : Str → Option Value} {base : Heap}
abbrev sRst : Stmt := topS 3
abbrev nRst : List Str := ["p", "thing", "number"]
theorem scRst : FnScope nRst ["p", "thing"] (defScope sRst) := ⟨rfl, rfl, rfl, by decide +kernel, rfl, by decide +kernel, by decide +kernel⟩
def spRst : Sp := fun vs H Q _ => ∃ (p : Int) (v : V) (d : PyData), vs = [.int p, v] ∧ Dh H v d ∧ d.bulk ≤ 10000 ∧ ∀ H', Same H H' → Q (.bl (restsB p d)) H'
theorem bulk_len : ∀ ds : List PyData, ds.length ≤ PyData.bulkAll ds
  | [] => Nat.le_refl _
  | d :: ds => by
    have := bulk_len ds
    show ds.length + 1 ≤ d.bulk + 1 + PyData.bulkAll ds
    omega
theorem bulk_mem : ∀ {ds : List PyData} {d : PyData}, d ∈ ds → d.bulk ≤ PyData.bulkAll ds
  | e :: ds, d, h => by
    rcases List.mem_cons.mp h with rfl | h
    · show d.bulk ≤ d.bulk + 1 + PyData.bulkAll ds
      omega
    · have := bulk_mem h
      show d.bulk ≤ e.bulk + 1 + PyData.bulkAll ds
      omega
theorem ok_rst {f fB : Addr} {fd fdB : FuncData} {k : Nat} (F : Fun K "is_rests" "is_rests" sRst f fd)
    (GB : FnOk P w K mg base CX0 (k + 2) fB fdB ["bound", "thing"] spIbl) (bB : Binds K fdB ["bound", "thing"] []) (kB : PySem.W.keepIn K (.ref fB) = true) (mB : mg "is_below" = some (.ref fB))
    (mi : mg "isinstance" = none) (mt : mg "list" = none) (ma : mg "all" = none) : FnOk P w K mg base CX0 (k + 3) f fd ["p", "thing"] spRst := by
  refine F.ok scRst (fun vs H Q E h => ?_) (fun cdv A outer s H vs Q E hr h => ?_)
  · obtain ⟨p, v, d, rfl, _⟩ := h
    rfl
  · obtain ⟨p, v, d, rfl, dh, hbk, q⟩ := h
    refine ⟨_, pss_cons (ps_if (pt_not (pt_val (pe_callB call_isi (by rfl) mi (by decide +kernel) (pa_cons (pv 1) (pa_cons (pe_bltn (v := .ty "list") (by rfl) mt (by decide +kernel) rfl) pa_nil))))) (pss_one (ps_ret pe_bl)) pss_nil)
      (pss_one (ps_ret (pe_callB (cr_all rfl) (by rfl) ma (by decide +kernel) (pa_cons (pe_lc (own := [("number", 2)]) (g := gName 2) (tt := tYes) (by rfl) scRst.nd (pi_list (pv 1)) (blkOk_by (own := [("number", 2)]) (N := nRst) (sc := defScope sRst) (by decide +kernel))
          (fun _ _ _ _ _ => pg_name (i := 2) scRst.nd rfl (Or.inl rfl)) (fun _ _ _ _ _ => pts_nil) (fun _ _ _ _ _ => pe_call GB hr (by rfl) mB kB bB .nil pass0 (pa_cons (pv 0) (pa_cons (pv 2) pa_nil)))) pa_nil)))), ?_⟩
    refine ⟨_, rfl, _, _, _, _, isLD d, rfl, .ty "list", dh.ty, kitL d, isLD d, rfl, ?_⟩
    cases dh with
    | lst h1 h2 =>
      rename_i a xs ds
      have bl : ds.length ≤ 10000 := Nat.le_trans (bulk_len ds) hbk
      refine iteF ?_
      refine ⟨_, rfl, a, rfl, ⟨_, SqL.of h1⟩, fun D hD => lc_it (walk_list (K := K) (a := a) (xs := xs)) (fun i H1 => Same H H1 ∧ H1 D = some (.lst (((ds.take i).map (restB p)).map V.bl))) ⟨same_new hD, upd_same⟩ (fun i H1 _ h => h.1.seq (SqL.of h1)) (fun i x H1 H2 hi hW y => ?_) (fun H1 hW => ?_)⟩
      · obtain ⟨rfl, hx⟩ := y
        obtain ⟨sm1, e1⟩ := hW
        obtain ⟨e, he⟩ := get_of (l := ds) (i := i) (by have := get_lt hx; have := h2.len; omega)
        have de := Dh.same sm1 e x (h2.get hx he)
        refine ⟨rfl, t_yes ?_⟩
        refine ⟨_, rfl, _, rfl, ⟨p, x, e, rfl, de, ?_⟩⟩
        refine ⟨_, e1, ?_, same_upd hD sm1, ?_⟩
        · rw [List.length_map, List.length_map, List.length_take, sizeLine_eq]
          omega
        · rw [upd_same, List.take_add_one, he]
          simp
      · obtain ⟨sm1, e1⟩ := hW
        rw [h2.len, List.take_length] at e1
        have q2 : Q (.bl (ds.all (restB p))) H1 := q H1 sm1
        refine ⟨D, ds.map (restB p), rfl, SqL.of e1, ?_⟩
        rw [List.all_map]
        exact q2
    | non => exact iteT (q H (Same.refl H))
    | bl b => exact iteT (q H (Same.refl H))
    | int i => exact iteT (q H (Same.refl H))
    | str x => exact iteT (q H (Same.refl H))
    | tup _ _ => exact iteT (q H (Same.refl H))
end

/-! ### lead -/
section
variable {P : Program} {w : World} {K : PySem.W.Frag} {mg : Str → Option Value} {base : Heap}
abbrev sLead : Stmt := topS 6
theorem scLead : FnScope ["row", "place", "number"] ["row"] (defScope sLead) := ⟨rfl, rfl, rfl, by decide +kernel, rfl, by decide +kernel, by decide +kernel⟩
def spLdA : Sp := fun vs H Q _ => ∃ (a : Addr) (m : Row), vs = [.ref a] ∧ IL H a m ∧ ∀ H', Same H H' → (∀ l, l < m.length → (∀ j, j < l → ent m j = 0) → ent m l ≠ 0 → Q (.int (l : Int)) H') ∧ ((∀ j, j < m.length → ent m j = 0) → Q .non H')
theorem ok_lda {f : Addr} {fd : FuncData} {k : Nat} (F : Fun K "lead" "lead" sLead f fd) (me : mg "enumerate" = none) : FnOk P w K mg base CX0 (k + 1) f fd ["row"] spLdA := by
  refine F.ok scLead (fun vs H Q E h => ?_) (fun cdv A outer s H vs Q E hr h => ?_)
  · obtain ⟨a, m, rfl, _⟩ := h
    rfl
  · obtain ⟨a, m, rfl, hm, q⟩ := h
    refine ⟨_, pss_cons (ps_for PassesOwn.never rfl (pi_enum (by rfl) me (pa_cons (pv 0) pa_nil)) (pg_tup rfl (pgs_cons (pg_name (i := 1) scLead.nd rfl (Or.inl rfl)) (pgs_cons (pg_name (i := 2) scLead.nd rfl (Or.inl rfl)) pgs_nil)))
        (pss_one (ps_if (pt_cmpR op_ne (pv 2) pe_int (nomark _)) (pss_one (ps_ret (pv 1))) pss_nil)))
      (pss_one (ps_ret pe_non)), ?_⟩
    refine ⟨_, rfl, a, _, rfl, IL.sq hm, ?_⟩
    refine for_it (walk_enum (K := K) (a := a) (xs := iv m)) (fun i σ H' => (∀ j, j < i → ent m j = 0) ∧ Same H H' ∧ ∃ y1 y2, σ = [some (.ref a), y1, y2]) ⟨fun j hj => absurd hj (Nat.not_lt_zero j), Same.refl H, none, none, rfl⟩ (fun i σ H' _ h => h.2.1.seq (IL.sq hm)) (fun i x σ H1 H2 hi hW y => ?_) (fun σ H' hW => ?_)
    · obtain ⟨zb, sm, y1, y2, rfl⟩ := hW
      obtain ⟨T, x1, x2, rfl, nT, rfl, g1, g2⟩ := y
      cases Option.some.inj g1
      obtain ⟨z, hzz, rfl⟩ := iv_inv g2
      have sT : Same H1 (L2.upd H1 T (.tup [.int (i : Int), .int z])) := same_new nT
      have hil : i < m.length := by rw [List.length_map] at hi; exact hi
      have ez : z = ent m i := by
        rw [ent_some hil] at hzz
        exact (Option.some.inj hzz).symm
      refine ⟨T, _, rfl, .inl (.inl upd_same), rfl, _, _, rfl, _, _, rfl, rfl, ?_⟩
      refine ⟨_, rfl, rfl, _, rfl, ?_⟩
      rw [← decide_not]
      refine ite2 (fun c => ?_) (fun c => ?_)
      · have c1 : z ≠ 0 := fun e => of_decide_eq_true c (congrArg V.int e)
        exact ⟨_, rfl, (q _ (sm.trans sT)).1 i hil zb (by rw [← ez]; exact c1)⟩
      · have c1 : z = 0 := Classical.byContradiction fun e => c (decide_eq_true fun w => e (V.int.inj w))
        refine ⟨fun j hj => ?_, sm.trans sT, _, _, rfl⟩
        by_cases e : j = i
        · rw [e, ← ez, c1]
        · exact zb j (by omega)
    · rw [List.length_map] at hW
      exact (q H' hW.2.1).2 hW.1
end

/-! ### leads_alone -/
section
variable {P : Program} {w : World} {K : PySem.W.Frag} {mg : Str → Option Value} {base : Heap}
abbrev sAln : Stmt := topS 8
abbrev nAln : List Str := ["rows", "row", "place", "other"]
theorem scAln : FnScope nAln ["rows", "row"] (defScope sAln) := ⟨rfl, rfl, rfl, by decide +kernel, rfl, by decide +kernel, by decide +kernel⟩
def spAln : Sp := fun vs H Q _ => ∃ (a r : Addr) (rs : List Addr) (M : List Row) (m : Row) (l n : Nat), vs = [.ref a, .ref r] ∧ Tab H a rs M ∧ IL H r m ∧ M.length ≤ 1000 ∧ (∀ x ∈ M, x.length = n) ∧ l < n ∧ l < m.length ∧ (∀ j, j < l → ent m j = 0) ∧ ent m l ≠ 0 ∧ ∀ H', Same H H' → Q (.bl (decide (cntL l M = 1))) H'
theorem filter_succ {α : Type} {f : α → Bool} {L : List α} {i : Nat} {x : α} (h : L[i]? = some x) : (L.take (i + 1)).filter f = (L.take i).filter f ++ (if f x = true then [x] else []) := by
  rw [List.take_add_one, h, List.filter_append]
  show _ = _ ++ _
  cases q : f x with
  | true => simp [q]
  | false => simp [q]
theorem ok_aln {f fL : Addr} {fd fdL : FuncData} {k : Nat} (F : Fun K "leads_alone" "leads_alone" sAln f fd)
    (GL : FnOk P w K mg base CX0 (k + 1) fL fdL ["row"] spLdA) (bL : Binds K fdL ["row"] []) (kL : PySem.W.keepIn K (.ref fL) = true) (mL : mg "lead" = some (.ref fL)) (ml : mg "len" = none) : FnOk P w K mg base CX0 (k + 2) f fd ["rows", "row"] spAln := by
  refine F.ok scAln (fun vs H Q E h => ?_) (fun cdv A outer s H vs Q E hr h => ?_)
  · obtain ⟨a, r, rs, M, m, l, n, rfl, _⟩ := h
    rfl
  · obtain ⟨a, r, rs, M, m, l, n, rfl, hT, hm, hM, hn, hl, hlm, zb, o, q⟩ := h
    refine ⟨_, pss_cons (ps_set (i := 2) scAln.nd rfl (.inr rfl) (pe_call GL hr (by rfl) mL kL bL .nil pass0 (pa_cons (pv 1) pa_nil)))
      (pss_one (ps_ret (pe_cmpR op_eq (pe_callB call_len_seq (by rfl) ml PySem.boot_len (pa_cons (pe_lc (own := [("other", 3)]) (g := gName 3) (by rfl) scAln.nd (pi_list (pv 0)) (blkOk_by (own := [("other", 3)]) (N := nAln) (sc := defScope sAln) (by decide +kernel))
        (fun _ _ _ _ _ => pg_name (i := 3) scAln.nd rfl (Or.inl rfl)) (fun _ _ _ _ _ => pts_one (pt_cmpR op_ne (pe_ix (ixL K) (pv 3) (pv 2) (fun _ _ => rfl)) pe_int (nomark _))) (fun _ _ _ _ _ => pv 3)) pa_nil)) pe_int (nomark _)))), ?_⟩
    refine ⟨_, rfl, r, m, rfl, hm, fun H1 s1 => ⟨fun l' hl' zb' o' => ?_, fun z => absurd (z l hlm) o⟩⟩
    have el : l' = l := lead_one zb' o' zb o
    subst el
    have hT1 := hT.same s1
    refine ⟨_, rfl, a, rfl, ⟨_, SqL.of hT1.at_⟩, fun D hD => lc_it (walk_list (K := K) (a := a) (xs := rf rs)) (fun i H2 => Same H1 H2 ∧ ∃ us : List V, us.length = ((M.take i).filter fun x => decide (ent x l' ≠ 0)).length ∧ H2 D = some (.lst us)) ⟨same_new hD, [], rfl, upd_same⟩ (fun i H2 _ h => h.1.seq (SqL.of hT1.at_)) (fun i x H2 H3 hi hW y => ?_) (fun H2 hW => ?_)⟩
    · obtain ⟨rfl, hx⟩ := y
      obtain ⟨sm2, us, lu, e2⟩ := hW
      obtain ⟨y, hy, rfl⟩ := rf_inv hx
      obtain ⟨mx, hmx⟩ := get_of (l := M) (i := i) (by have := get_lt hy; have := hT1.len; omega)
      have hrow := sm2 _ _ (hT1.row i y mx hy hmx)
      have lx := hn mx (List.mem_of_getElem? hmx)
      have hlx : l' < mx.length := by omega
      refine ⟨rfl, ?_⟩
      refine ⟨_, rfl, _, rfl, y, _, _, _, rfl, rfl, IL.sq hrow, atI_nat (iv_ent hlx), rfl, ?_⟩
      refine ⟨_, rfl, ?_⟩
      rw [← decide_not]
      have ef := filter_succ (f := fun x : Row => decide (ent x l' ≠ 0)) hmx
      refine ite2 (fun c => ?_) (fun c => ?_)
      · have c1 : ent mx l' ≠ 0 := fun e => of_decide_eq_true c (congrArg V.int e)
        rw [if_pos (decide_eq_true c1)] at ef
        refine ⟨_, rfl, us, e2, ?_, same_upd hD sm2, _, ?_, upd_same⟩
        · rw [lu]
          have h1 := List.length_filter_le (fun x : Row => decide (ent x l' ≠ 0)) (M.take i)
          have h2 : (M.take i).length ≤ M.length := by rw [List.length_take]; omega
          rw [sizeLine_eq]
          omega
        · rw [ef, List.length_append, List.length_append, lu]
          rfl
      · have c1 : ent mx l' = 0 := Classical.byContradiction fun e => c (decide_eq_true fun w => e (V.int.inj w))
        have c2 : decide (ent mx l' ≠ 0) = false := decide_eq_false fun z => z c1
        rw [c2, if_neg Bool.false_ne_true, List.append_nil] at ef
        refine ⟨sm2, us, ?_, e2⟩
        rw [ef, lu]
    · obtain ⟨sm2, us, lu, e2⟩ := hW
      rw [List.length_map, hT1.len, List.take_length] at lu
      refine ⟨D, us, rfl, .inl (SqL.of e2), rfl, ?_⟩
      have e3 : decide (V.int (us.length : Int) = V.int 1) = decide (cntL l' M = 1) := by
        rw [lu]
        refine decide_eq_decide.mpr ⟨fun z => ?_, fun z => ?_⟩
        · have := V.int.inj z
          show cntL l' M = 1
          unfold cntL
          omega
        · have z : ((M.filter fun x => decide (ent x l' ≠ 0)).length : Nat) = 1 := z
          rw [z]
          rfl
      show Q (.bl (decide (V.int (us.length : Int) = V.int 1))) H2
      rw [e3]
      exact q H2 (s1.trans sm2)
end

/-! ### is_low -/
section
variable {P : Program} {w : World} {K : PySem.W.Frag} {mg : Str → Option Value} {base : Heap}
abbrev sIsl : Stmt := topS 7
abbrev nIsl : List Str := ["p", "thing", "before", "row", "place"]
theorem scIsl : FnScope nIsl ["p", "thing"] (defScope sIsl) := ⟨rfl, rfl, rfl, by decide +kernel, rfl, by decide +kernel, by decide +kernel⟩
def spIsl (T : Addr) : Sp := fun vs H Q _ => ∃ (p : Int) (v : V) (d : PyData), vs = [.int p, v] ∧ Dh H v d ∧ (∀ ds, d = .list ds → ds.length ≤ 200) ∧ d.bulk ≤ 10000 ∧ GxR.TabG H T ∧ ∀ H', Grown T H H' → Q (.bl (lowB p d)) H'
theorem dh_ints {H : Hp} : ∀ {m : Row} {xs : List V}, DhAll H xs (m.map PyData.int) → xs = iv m
  | [], xs, h => by cases h; rfl
  | i :: m, xs, h => by
    cases h with
    | cons a b =>
      cases a
      rw [dh_ints b]
      rfl
theorem dh_row {H : Hp} {v : V} {m : Row} (h : Dh H v (dRow m)) : ∃ r, v = .ref r ∧ IL H r m := by
  cases h with
  | lst a b =>
    rw [dh_ints b] at a
    exact ⟨_, rfl, a⟩
theorem dh_tab {H : Hp} {a : Addr} {xs : List V} {M : List Row} (h : H a = some (.lst xs)) (h2 : DhAll H xs (M.map dRow)) : ∃ rs, xs = rf rs ∧ Tab H a rs M := by
  have key : ∀ (M : List Row) (xs : List V), DhAll H xs (M.map dRow) → ∃ rs, xs = rf rs ∧ rs.length = M.length ∧ ∀ (i : Nat) r m, rs[i]? = some r → M[i]? = some m → IL H r m := by
    intro M
    induction M with
    | nil =>
      intro xs h
      cases h
      exact ⟨[], rfl, rfl, fun i r m hr => by simp at hr⟩
    | cons m M ih =>
      intro xs h
      cases h with
      | cons a b =>
        obtain ⟨r, rfl, hr⟩ := dh_row a
        obtain ⟨rs, rfl, hl, hrow⟩ := ih _ b
        refine ⟨r :: rs, rfl, by rw [List.length_cons, List.length_cons, hl], fun i q m' hq hm => ?_⟩
        cases i with
        | zero =>
          have e1 : r = q := by simpa using hq
          have e2 : m = m' := by simpa using hm
          rw [← e1, ← e2]
          exact hr
        | succ i => exact hrow i q m' (by simpa using hq) (by simpa using hm)
  obtain ⟨rs, rfl, hl, hrow⟩ := key M xs h2
  exact ⟨rs, rfl, h, hl, hrow⟩
theorem ok_isl {f fR fL fA c T : Addr} {fd fdR fdL fdA : FuncData} {k : Nat} {tk : Tok} (F : Fun K "is_low" "is_low" sIsl f fd) (hcode : fd.code = .ref c) (TB : GxR.TabB base mg c T)
    (GR : FnOk P w K mg base CX0 (k + 3) fR fdR ["p", "thing"] spRst) (bR : Binds K fdR ["p", "thing"] []) (kR : PySem.W.keepIn K (.ref fR) = true) (mR : mg "is_rests" = some (.ref fR))
    (GL : FnOk P w K mg base CX0 (k + 3) fL fdL ["row"] spLdA) (bL : Binds K fdL ["row"] []) (kL : PySem.W.keepIn K (.ref fL) = true) (mL : mg "lead" = some (.ref fL))
    (GA : FnOk P w K mg base CX0 (k + 2) fA fdA ["rows", "row"] spAln) (bA : Binds K fdA ["rows", "row"] []) (kA : PySem.W.keepIn K (.ref fA) = true) (mA : mg "leads_alone" = some (.ref fA))
    (mi : mg "isinstance" = none) (mt : mg "list" = none) (ml : mg "len" = none) (ma : mg "all" = none) (mN : mg "LONGEST" = some (.int 36 tk)) : FnOk P w K mg base CX0 (k + 4) f fd ["p", "thing"] (spIsl T) := by
  obtain ⟨oc, od, kV, doc, pm, an, cdv, ct, osl, rfl, lk, hcd⟩ := F.ex
  have ec : cdv = .ref c := hcode
  subst ec
  refine fn_of lk hcd scIsl (fun vs H Q E h => ?_) (fun A outer s H vs Q E hr h => ?_)
  · obtain ⟨p, v, d, rfl, _⟩ := h
    rfl
  · obtain ⟨p, v, d, rfl, dh, hbk, hbk2, htab, q⟩ := h
    refine ⟨_, PSs.nox (pss_cons (ps_if (pt_not (pt_val (pe_callB call_isi (by rfl) mi (by decide +kernel) (pa_cons (pv 1) (pa_cons (pe_bltn (v := .ty "list") (by rfl) mt (by decide +kernel) rfl) pa_nil))))) (pss_one (ps_ret pe_bl)) pss_nil)
      (pss_cons (ps_set (i := 2) scIsl.nd rfl (.inl rfl) (pe_un un_neg pe_int))
      (pss_cons (ps_for PassesOwn.never rfl (pi_list (pv 1)) (pg_name (i := 3) scIsl.nd rfl (Or.inl rfl))
        (pss_cons (ps_if (PW.pt (pw_or (pt_not (pt_val (pe_call GR hr (by rfl) mR kR bR .nil pass0 (pa_cons (pv 0) (pa_cons (pv 3) pa_nil))))) (pw_or (pt_cmpR op_gt (pe_callB call_len_seq (by rfl) ml PySem.boot_len (pa_cons (pv 3) pa_nil)) (pe_glob (v := .int 36) rfl mN ⟨_, rfl⟩) (nomark _))
            (pw_or1 (pt_cmpR op_ne (pe_callB call_len_seq (by rfl) ml PySem.boot_len (pa_cons (pv 3) pa_nil)) (pe_callB call_len_seq (by rfl) ml PySem.boot_len (pa_cons (pe_ix ix_list (pv 1) pe_int (fun _ _ => rfl)) pa_nil)) (nomark _)))))) (pss_one (ps_ret pe_bl)) pss_nil)
        (pss_cons (ps_set (i := 4) scIsl.nd rfl (.inl rfl) (pe_call GL hr (by rfl) mL kL bL .nil pass0 (pa_cons (pv 3) pa_nil)))
        (pss_cons (ps_if (PW.pt (pw_or (pt_cmp (pc_isN (pv 4))) (pw_or (pt_cmpR op_ne (pe_ix ix_list (pv 3) (pv 4) (fun _ _ => rfl)) pe_int (nomark _)) (pw_or1 (pt_cmpR op_le (pv 4) (pv 2) (nomark _)))))) (pss_one (ps_ret pe_bl)) pss_nil)
        (pss_one (ps_set (i := 2) scIsl.nd rfl (.inl rfl) (pv 4)))))))
      (pss_one (ps_ret (pe_allG (own := [("row", 3)]) (g := gName 3) (k := k + 2) hr rfl scIsl.nd (by rfl) ma (by decide +kernel) TB rfl (blkOk_by (own := [("row", 3)]) (N := nIsl) (sc := defScope sIsl) (by decide +kernel)) rfl (by decide +kernel) (by decide +kernel) (pi_list (pv 1))
        (fun _ _ _ _ _ _ _ => pg_name (i := 3) scIsl.nd rfl (Or.inl rfl)) (fun _ _ _ _ _ _ _ hr2 => pe_call GA hr2 (by rfl) mA kA bA .nil pass0 (pa_cons (pv 1) (pa_cons (pv 3) pa_nil))) (fun _ => rfl))))))), ?_⟩
    refine ⟨_, rfl, _, _, _, _, isLD d, rfl, .ty "list", dh.ty, kitL d, isLD d, rfl, ?_⟩
    have qN : ∀ {d : PyData}, (∀ M, d ≠ dTab M) → (∀ H', Grown T H H' → Q (.bl (lowB p d)) H') → Q (.bl false) H := fun {d} z q => by
      have := q H (Grown.of htab (Same.refl H))
      rw [lowB_false (fun ⟨n, M, ls, e, _⟩ => z M e)] at this
      exact this
    cases dh with
    | non => exact iteT (qN (fun M z => by cases z) q)
    | bl b => exact iteT (qN (fun M z => by cases z) q)
    | int i => exact iteT (qN (fun M z => by cases z) q)
    | str x => exact iteT (qN (fun M z => by cases z) q)
    | tup _ _ => exact iteT (qN (fun M z => by cases z) q)
    | lst h1 h2 =>
      rename_i a xs ds
      have qF : ∀ {H'}, ¬ LowD p (.list ds) → Same H H' → Q (.bl false) H' := fun {H'} z s => by
        have := q H' (Grown.of htab s)
        rw [lowB_false z] at this
        exact this
      have dl : ds.length ≤ 200 := hbk ds rfl
      refine iteF ?_
      refine ⟨_, rfl, ?_⟩
      refine ⟨_, rfl, a, rfl, ⟨_, SqL.of h1⟩, ?_⟩
      refine for_list (K := K) (a := a) (xs := xs) (fun i σ H' => ∃ (bf : Int) (y3 y4 : Option V) (Mi : List Row) (li : List Nat), σ = [some (.int p), some (.ref a), some (.int bf), y3, y4] ∧ Same H H' ∧ ds.take i = Mi.map dRow ∧ Pre p (n0 ds) Mi li ∧ (0 < i → n0 ds ≤ 36) ∧ (∀ x ∈ li, (x : Int) ≤ bf) ∧ (bf = -1 ∨ ∃ x ∈ li, bf = (x : Int)))
        ⟨-1, none, none, [], [], rfl, Same.refl H, rfl, Pre.nil, fun z => absurd z (Nat.lt_irrefl 0), fun x hx => by simp at hx, .inl rfl⟩ (fun i σ H' _ hW => ?_) (fun i v σ Ho hx hW => ?_) (fun σ H' hW => ?_)
      · obtain ⟨_, _, _, _, _, _, sm, _⟩ := hW
        exact sm.seq (SqL.of h1)
      · obtain ⟨bf, y3, y4, Mi, li, rfl, sm, eM, pre, few, ub, bfi⟩ := hW
        obtain ⟨e, he⟩ := get_of (l := ds) (i := i) (by have := get_lt hx; have := h2.len; omega)
        have de := Dh.same sm e v (h2.get hx he)
        have at_ : LowD p (.list ds) → n0 ds ≤ 36 ∧ ∃ m l, e = dRow m ∧ Wf p (n0 ds) m ∧ l < n0 ds ∧ (∀ j, j < l → ent m j = 0) ∧ ent m l = 1 ∧ ∀ x ∈ li, x < l := fun z => by
          obtain ⟨a1, M, ls, rfl, L, m, l, hm, hl, a2, a3, a4, a5, a6⟩ := lowD_at z he
          refine ⟨a1, m, l, a2, a3, a4, a5, a6, fun x hx' => ?_⟩
          have eMi : Mi = M.take i := by
            rw [← List.map_take] at eM
            exact (dTab_inj eM).symm
          have pre2 : Pre p (n0 (M.map dRow)) Mi (ls.take i) := by
            refine ⟨?_, fun j mj lj h3 h4 => ?_, L.up.sublist (List.take_sublist _ _)⟩
            · rw [eMi, List.length_take, List.length_take, L.dl.1]
            · rw [eMi, List.getElem?_take] at h3
              rw [List.getElem?_take] at h4
              by_cases c : j < i
              · rw [if_pos c] at h3 h4
                exact L.pre.row j mj lj h3 h4
              · rw [if_neg c] at h3
                cases h3
          rw [pre.same pre2] at hx'
          obtain ⟨j, hj⟩ := List.getElem?_of_mem hx'
          rw [List.getElem?_take] at hj
          by_cases c : j < i
          · rw [if_pos c] at hj
            have hj2 := (List.getElem?_eq_some_iff.mp hj)
            have hl2 := (List.getElem?_eq_some_iff.mp hl)
            obtain ⟨b1, b2⟩ := hj2
            obtain ⟨b3, b4⟩ := hl2
            have := List.pairwise_iff_getElem.mp L.up j i b1 b3 c
            rw [b2, b4] at this
            exact this
          · rw [if_neg c] at hj
            cases hj
        have be : e.bulk ≤ 10000 := Nat.le_trans (bulk_mem (List.mem_of_getElem? he)) hbk2
        refine ⟨_, rfl, _, rfl, ⟨p, v, e, rfl, de, be, fun H' s1 => ⟨_, rfl, ?_⟩⟩⟩
        replace de := Dh.same s1 e v de
        replace sm := sm.trans s1
        cases hb : restsB p e with
        | false =>
          refine iteT (iteT (qF (fun z => ?_) sm))
          obtain ⟨_, m, l, rfl, w, _⟩ := at_ z
          rw [show restsB p (dRow m) = true from all_rows w.rng] at hb
          cases hb
        | true =>
          refine iteF ?_
          obtain ⟨m, rfl, rng⟩ := restsB_row hb
          obtain ⟨r, rfl, hrow⟩ := dh_row de
          refine ⟨_, rfl, r, _, rfl, .inl (IL.sq hrow), _, _, rfl, rfl, _, rfl, ?_⟩
          rw [List.length_map]
          by_cases c1 : m.length > 36
          · rw [decide_eq_true (show ((m.length : Nat) : Int) > 36 by omega)]
            refine iteT (iteT (qF (fun z => ?_) sm))
            obtain ⟨a1, m', l, e1, w, _⟩ := at_ z
            have := dRow_inj e1
            subst this
            have := w.len
            omega
          rw [decide_eq_false (show ¬ ((m.length : Nat) : Int) > 36 by omega)]
          refine iteF ?_
          -- the first row
          obtain ⟨r0, m0, hx0, hd0, hr0⟩ : ∃ r0 m0, xs[0]? = some (.ref r0) ∧ ds[0]? = some (dRow m0) ∧ IL H' r0 m0 := by
            cases i with
            | zero => exact ⟨r, m, hx, he, hrow⟩
            | succ i =>
              obtain ⟨e0, he0⟩ := get_of (l := ds) (i := 0) (by have := get_lt he; omega)
              obtain ⟨v0, hv0⟩ := get_of (l := xs) (i := 0) (by have := get_lt hx; omega)
              have q0 : (ds.take (i + 1))[0]? = some e0 := by
                rw [List.getElem?_take, if_pos (by omega)]
                exact he0
              rw [eM, List.getElem?_map] at q0
              cases q1 : Mi[0]? with
              | none => rw [q1] at q0; cases q0
              | some m0 =>
                rw [q1] at q0
                have q0 : dRow m0 = e0 := Option.some.inj q0
                subst q0
                obtain ⟨r0, rfl, h0⟩ := dh_row (Dh.same sm _ _ (h2.get hv0 he0))
                exact ⟨r0, m0, hv0, he0, h0⟩
          have en : n0 ds = m0.length := by
            cases ds with
            | nil => cases hd0
            | cons d ds =>
              have : d = dRow m0 := by simpa using hd0
              subst this
              show (m0.map PyData.int).length = _
              rw [List.length_map]
          refine ⟨_, rfl, r, _, rfl, .inl (IL.sq hrow), _, rfl, a, _, _, _, rfl, rfl, sm.seq (SqL.of h1), atI_nat (j := 0) hx0, r0, _, rfl, .inl (IL.sq hr0), rfl, _, rfl, ?_⟩
          rw [List.length_map, List.length_map, ← decide_not]
          refine ite2 (fun c2 => qF (fun z => ?_) sm) (fun c2 => ?_)
          · obtain ⟨a1, m', l, e1, w, _⟩ := at_ z
            have := dRow_inj e1
            subst this
            have c2 := of_decide_eq_true c2
            exact c2 (by rw [w.len, en])
          have len : m.length = m0.length := Classical.byContradiction fun z => c2 (decide_eq_true fun w => z (by have := V.int.inj w; omega))
          have wm : Wf p (n0 ds) m := ⟨by rw [len, en], rng⟩
          refine ⟨_, rfl, r, m, rfl, hrow, fun H1 s1 => ⟨fun l hl zb o => ?_, fun z => ?_⟩⟩
          · have sm1 := sm.trans s1
            refine ⟨_, rfl, _, rfl, iteF ?_⟩
            refine ⟨_, rfl, _, rfl, r, _, _, _, rfl, rfl, IL.sq (s1 _ _ hrow), atI_nat (iv_ent hl), rfl, _, rfl, ?_⟩
            rw [← decide_not]
            refine ite2 (fun c3 => iteT (qF (fun z => ?_) sm1)) (fun c3 => ?_)
            · obtain ⟨a1, m', l', e1, w, b1, b2, b3, _⟩ := at_ z
              have := dRow_inj e1
              subst this
              have el : l = l' := lead_one zb o b2 (by rw [b3]; decide)
              have c3 := of_decide_eq_true c3
              exact c3 (by rw [el, b3])
            have one : ent m l = 1 := Classical.byContradiction fun z => c3 (decide_eq_true fun w => z (V.int.inj w))
            refine ⟨_, rfl, _, rfl, _, _, rfl, rfl, _, rfl, ?_⟩
            by_cases c4 : (l : Int) ≤ bf
            · rw [decide_eq_true c4]
              refine iteT (qF (fun z => ?_) sm1)
              obtain ⟨a1, m', l', e1, w, b1, b2, b3, b4⟩ := at_ z
              have := dRow_inj e1
              subst this
              have el : l = l' := lead_one zb o b2 (by rw [b3]; decide)
              subst el
              rcases bfi with e2 | ⟨x, hx2, e2⟩
              · omega
              · have := b4 x hx2
                omega
            · rw [decide_eq_false c4]
              refine iteF ?_
              refine ⟨_, rfl, ?_⟩
              refine ⟨(l : Int), _, _, Mi ++ [m], li ++ [l], rfl, sm1, ?_, pre.snoc wm (by rw [en, ← len]; exact hl) zb one (fun x hx2 => by have := ub x hx2; omega), fun _ => by rw [en]; omega, fun x hx2 => ?_, .inr ⟨l, List.mem_append_right _ (List.mem_singleton.mpr rfl), rfl⟩⟩
              · rw [List.take_add_one, he, eM, List.map_append]
                rfl
              · rcases List.mem_append.mp hx2 with hx2 | hx2
                · have := ub x hx2
                  omega
                · rw [List.mem_singleton.mp hx2]
                  exact Int.le_refl _
          · refine ⟨_, rfl, _, rfl, iteT (iteT (qF (fun z2 => ?_) (sm.trans s1)))⟩
            obtain ⟨a1, m', l', e1, w, b1, b2, b3, b4⟩ := at_ z2
            have := dRow_inj e1
            subst this
            rw [z l' (by rw [w.len]; exact b1)] at b3
            cases b3
      · obtain ⟨bf, y3, y4, Mi, li, rfl, sm, eM, pre, few, ub, bfi⟩ := hW
        rw [h2.len, List.take_length] at eM
        subst eM
        have htab1 : GxR.TabG H' T := (Grown.of htab sm).tab
        obtain ⟨rs, rfl, hT⟩ := dh_tab (sm _ _ h1) (DhAll.same sm _ _ h2)
        rw [List.length_map] at dl
        have hn : n0 (Mi.map dRow) ≤ 36 := by
          by_cases c : Mi = []
          · subst c
            exact Nat.zero_le _
          · refine few ?_
            rw [h2.len, List.length_map]
            exact List.length_pos_iff.mpr c
        have all := lowD_all pre hn
        have qq : ∀ {H2} {b : Bool}, Grown T H' H2 → (LowD p (dTab Mi) ↔ b = true) → Q (.bl b) H2 := fun {H2 b} g z => by
          have := q H2 ((Grown.of htab sm).trans g)
          rw [show lowB p (.list (Mi.map dRow)) = b from lowB_iff z] at this
          exact this
        refine ⟨_, rfl, a, rfl, ⟨_, SqL.of hT.at_⟩, htab1, fun H2 tb => ⟨Mi.length, fun i => decide (cntL (li.getD i 0) Mi = 1), fun i Hx => Grown T H' Hx, Grown.tbd tb, fun i Hx hi g => ?_, fun Hx g => ?_, fun i x Hx Hy hi g y => ?_, fun i Hx hi hb g => ?_, fun Hx hb g => ?_⟩⟩
        · exact (walk_list (K := K) (a := a) (xs := rf rs)).goes i Hx (by rw [List.length_map, hT.len]; exact hi) (SqL.of (g.lst htab1 hT.at_))
        · have := (walk_list (K := K) (a := a) (xs := rf rs)).stops Hx (SqL.of (g.lst htab1 hT.at_))
          rw [List.length_map, hT.len] at this
          exact this
        · have gl := SqL.of (K := K) (g.lst htab1 hT.at_)
          obtain ⟨rfl, hxx⟩ := (walk_list (K := K) (a := a) (xs := rf rs)).yields i Hx x Hy (by rw [List.length_map, hT.len]; exact hi) gl y
          obtain ⟨r, hr, rfl⟩ := rf_inv hxx
          obtain ⟨m, hm⟩ := get_of (l := Mi) (i := i) hi
          obtain ⟨l, hl⟩ := get_two pre.len.symm hm
          obtain ⟨w1, w2, w3, w4⟩ := pre.row i m l hm hl
          have tabx : Tab Hy a rs Mi := ⟨g.lst htab1 hT.at_, hT.len, fun j r' m' h3 h4 => g.lst htab1 (hT.row j r' m' h3 h4)⟩
          refine ⟨rfl, ?_⟩
          refine ⟨_, rfl, _, rfl, ⟨a, r, rs, Mi, m, l, n0 (Mi.map dRow), rfl, tabx, tabx.row i r m hr hm, Nat.le_trans dl (by decide), fun x hx => ?_, w2, by rw [w1.len]; exact w2, w3, by rw [w4]; decide, fun H4 s4 => ⟨?_, g.trans (Grown.of g.tab s4)⟩⟩⟩
          · obtain ⟨j, hj⟩ := List.getElem?_of_mem hx
            obtain ⟨lj, hlj⟩ := get_two pre.len.symm hj
            exact (pre.row j x lj hj hlj).1.len
          · show V.bl (decide (cntL l Mi = 1)) = V.bl (decide (cntL (li.getD i 0) Mi = 1))
            rw [getD_of hl]
        · refine qq g ⟨fun z => ?_, fun z => by cases z⟩
          have := all.mp z
          obtain ⟨m, hm⟩ := get_of (l := Mi) (i := i) hi
          obtain ⟨l, hl⟩ := get_two pre.len.symm hm
          have hb : decide (cntL (li.getD i 0) Mi = 1) = false := hb
          rw [getD_of hl, this i m l hm hl] at hb
          cases hb
        · refine qq g ⟨fun _ => rfl, fun _ => all.mpr fun i m l hm hl => ?_⟩
          have : decide (cntL (li.getD i 0) Mi = 1) = true := hb i (get_lt hm)
          rw [getD_of hl] at this
          exact of_decide_eq_true this
end

/-! ### _law_cell -/
section
variable {P : Program} {w : World} {K : PySem.W.Frag} {mg : Str → Option Value} {base : Heap}
abbrev sCell : Stmt := topS 10

theorem scCell : FnScope ["_law_script", "_law_k", "_law_seed"] ["_law_script", "_law_k"] (defScope sCell) := ⟨rfl, rfl, rfl, by decide +kernel, rfl, by decide +kernel, by decide +kernel⟩

def spCell (K : PySem.W.Frag) : Sp := fun vs H Q _ => ∃ (a : Addr) (ns : List Int) (k : Nat), vs = [.ref a, .int (k : Int)] ∧ SqL K H a (iv ns) ∧ k ≤ 1000 ∧ ∀ c : Int, Q (.int c) H

theorem ok_cell {f : Addr} {fd : FuncData} {k : Nat} (F : Fun K "_law_cell" "_law_cell" sCell f fd) (ml : mg "len" = none) : FnOk P w K mg base CX0 (k + 1) f fd ["_law_script", "_law_k"] (spCell K) := by
  refine F.ok scCell (fun vs H Q E h => ?_) (fun cdv A outer s H vs Q E hr h => ?_)
  · obtain ⟨a, ns, k, rfl, _⟩ := h
    rfl
  · obtain ⟨a, ns, k, rfl, hS, hk, q⟩ := h
    refine ⟨_, pss_cons (ps_if (pt_cmpR op_lt (pv 1) (pe_callB call_len_seq (by rfl) ml PySem.boot_len (pa_cons (pv 0) pa_nil)) (nomark _)) (pss_one (ps_ret (pe_ix ix_list (pv 0) (pv 1) (fun _ _ => rfl)))) pss_nil)
      (pss_cons (ps_set (i := 2) scCell.nd rfl (.inl rfl) (pe_op op_add (pe_op op_mul pe_int (pv 1)) pe_int))
      (C8.pss_cut (ps_if (pt_cmpR op_gt (pe_callB call_len_seq (by rfl) ml PySem.boot_len (pa_cons (pv 0) pa_nil)) pe_int (nomark _))
        (pss_one (ps_set (i := 2) scCell.nd rfl (.inl rfl) (pe_op op_add (pv 2) (pe_op op_mod (pe_ix ix_list (pv 0) (pe_op op_mod (pv 1) (pe_callB call_len_seq (by rfl) ml PySem.boot_len (pa_cons (pv 0) pa_nil))) (fun _ _ => rfl)) pe_int)))) pss_nil)
      (pss_one (ps_ret (pe_op op_mod (pe_op op_mul (pe_op op_mod (pe_op op_mul (pv 2) pe_int) pe_int) (pe_op op_add (pv 1) pe_int)) pe_int))))), ?_⟩
    have hl : (iv ns).length = ns.length := List.length_map _
    refine ⟨_, rfl, _, rfl, a, _, rfl, .inl hS, _, _, rfl, rfl, _, rfl, ?_⟩
    rw [hl]
    refine ite2 (fun c => ?_) (fun c => ?_)
    · have c' := of_decide_eq_true c
      exact ⟨_, rfl, _, rfl, a, _, _, _, rfl, rfl, hS, atI_nat (iv_ent (by omega)), q _⟩
    · refine ⟨_, rfl, _, _, rfl, rfl, .inl ⟨by omega, by omega⟩, _, _, rfl, rfl, ?_⟩
      refine ⟨fun σ' H' => ∃ sd : Int, σ' = [some (.ref a), some (.int (k : Int)), some (.int sd)] ∧ H' = H ∧ 0 ≤ sd ∧ sd < 100000000, ?_, fun σ' H' hW => ?_⟩
      · refine ⟨_, rfl, a, _, rfl, .inl hS, _, _, rfl, rfl, _, rfl, ?_⟩
        rw [hl]
        refine ite2 (fun c => ?_) (fun c => ?_)
        · have c' := of_decide_eq_true c
          have b1 := Int.emod_nonneg (k : Int) (show (ns.length : Int) ≠ 0 by omega)
          have b2 := Int.emod_lt_of_pos (k : Int) (show (0 : Int) < ns.length by omega)
          obtain ⟨j, hj⟩ := Int.eq_ofNat_of_zero_le b1
          have hjl : j < ns.length := by omega
          refine ⟨_, rfl, _, rfl, _, rfl, _, rfl, a, _, rfl, .inl hS, _, _, rfl, rfl, (by show (0 : Int) < ((iv ns).length : Int); rw [hl]; omega), a, _, _, _, rfl, rfl, hS, at_of (j := j) (by rw [← hj, hl]) (iv_ent hjl), _, _, rfl, rfl, (by show (0 : Int) < 65519; decide), _, _, rfl, rfl, ?_⟩
          have b3 := Int.emod_nonneg (ent ns j) (show (65519 : Int) ≠ 0 by decide)
          have b4 := Int.emod_lt_of_pos (ent ns j) (show (0 : Int) < 65519 by decide)
          exact ⟨_, rfl, rfl, by omega, by omega⟩
        · exact ⟨_, rfl, rfl, by omega, by omega⟩
      · obtain ⟨sd, rfl, rfl, h0, h1⟩ := hW
        refine ⟨_, rfl, _, _, rfl, rfl, .inl ⟨by omega, by omega⟩, _, _, rfl, rfl, (by show (0 : Int) < 65537; decide), _, rfl, _, _, rfl, rfl, _, _, rfl, rfl, .inr ⟨by omega, by omega⟩, _, _, rfl, rfl, (by show (0 : Int) < 65521; decide), q _⟩
end

/-! ### _law_bag -/
section
variable {P : Program} {w : World} {K : PySem.W.Frag} {mg : Str → Option Value} {base : Heap}
abbrev sBag : Stmt := topS 11

theorem scBag : FnScope ["_law_script", "_law_at", "_law_cell_here"] ["_law_script", "_law_at"] (defScope sBag) := ⟨rfl, rfl, rfl, by decide +kernel, rfl, by decide +kernel, by decide +kernel⟩

def spBag (K : PySem.W.Frag) : Sp := fun vs H Q _ => ∃ (a : Addr) (ns : List Int) (k : Nat), vs = [.ref a, .int (k : Int)] ∧ SqL K H a (iv ns) ∧ k ≤ 1000 ∧ ∀ q H', H q = none → Same H H' → Bg H' q 1001 → Q (.ref q) H'

theorem ok_bag {f fC : Addr} {fd fdC : FuncData} {k : Nat} (F : Fun K "_law_bag" "_law_bag" sBag f fd)
    (GC : FnOk P w K mg base CX0 (k + 1) fC fdC ["_law_script", "_law_k"] (spCell K)) (bC : Binds K fdC ["_law_script", "_law_k"] []) (kC : PySem.W.keepIn K (.ref fC) = true) (mC : mg "_law_cell" = some (.ref fC)) (ma : mg "abs" = none) :
    FnOk P w K mg base CX0 (k + 2) f fd ["_law_script", "_law_at"] (spBag K) := by
  refine F.ok scBag (fun vs H Q E h => ?_) (fun cdv A outer s H vs Q E hr h => ?_)
  · obtain ⟨a, ns, k, rfl, _⟩ := h
    rfl
  · obtain ⟨a, ns, k, rfl, hS, hk, q⟩ := h
    refine ⟨_, pss_cons (ps_set (i := 2) scBag.nd rfl (.inl rfl) (pe_call GC hr (by rfl) mC kC bC .nil pass0 (pa_cons (pv 0) (pa_cons (pv 1) pa_nil))))
      (pss_cons (ps_if (pt_cmpR op_ge (pe_callB call_abs (by rfl) ma (by decide +kernel) (pa_cons (pv 2) pa_nil)) (pe_op op_pow pe_int pe_int) (nomark _))
        (pss_one (ps_ret (pe_lst (pa_cons (pe_callB call_abs (by rfl) ma (by decide +kernel) (pa_cons (pv 2) pa_nil)) (pa_cons pe_int pa_nil))))) pss_nil)
      (pss_one (ps_ret (pe_lst (pa_cons (pe_op op_mod (pv 2) pe_int) (pa_cons (pe_op op_add (pv 1) pe_int) pa_nil)))))), ?_⟩
    refine ⟨_, rfl, _, rfl, ⟨a, ns, k, rfl, hS, hk, fun c => ?_⟩⟩
    refine ⟨_, rfl, _, rfl, _, _, rfl, rfl, ⟨by decide, by decide, by decide⟩, _, _, rfl, rfl, _, rfl, ?_⟩
    refine ite2 (fun _ => ?_) (fun _ => ?_)
    · refine ⟨_, rfl, _, rfl, (by show 2 ≤ sizeLine; decide), fun l nl => q l _ nl (same_new nl) ⟨_, 0, upd_same, ?_, by omega, by omega, .inl rfl⟩⟩
      split <;> omega
    · refine ⟨_, rfl, _, _, rfl, rfl, (by show (0 : Int) < 2147483647; decide), _, rfl, _, _, rfl, rfl, (by show 2 ≤ sizeLine; decide), fun l nl => q l _ nl (same_new nl) ⟨_, _, upd_same, Int.emod_nonneg _ (by decide), by omega, by omega, .inr (Int.emod_lt_of_pos _ (by decide))⟩⟩
end

/-! ### _law_take -/
section
variable {P : Program} {w : World} {K : PySem.W.Frag} {mg : Str → Option Value} {base : Heap}
abbrev sTake : Stmt := topS 12

theorem scTake : FnScope ["_law_bag_here", "_law_many", "_law_digit"] ["_law_bag_here", "_law_many"] (defScope sTake) := ⟨rfl, rfl, rfl, by decide +kernel, rfl, by decide +kernel, by decide +kernel⟩

def spTake : Sp := fun vs H Q _ => ∃ (b : Addr) (m : Int) (c : Nat), vs = [.ref b, .int m] ∧ 0 < m ∧ m < 1152921504606846976 ∧ Bg H b c ∧ c < 2 ^ 40 ∧ ∀ (d : Int) H', 0 ≤ d → d < m → Off b H H' → (∀ q, q ≠ b → H' q = H q) → Bg H' b (c + 1) → Q (.int d) H'

theorem ok_take {f : Addr} {fd : FuncData} {k : Nat} (F : Fun K "_law_take" "_law_take" sTake f fd) : FnOk P w K mg base CX0 (k + 1) f fd ["_law_bag_here", "_law_many"] spTake := by
  refine F.ok scTake (fun vs H Q E h => ?_) (fun cdv A outer s H vs Q E hr h => ?_)
  · obtain ⟨a, m, c, rfl, _⟩ := h
    rfl
  · obtain ⟨b, m, c, rfl, h0, h1, ⟨x, y, hb, hx, hy, hyc, hxy⟩, hc, q⟩ := h
    refine ⟨_, pss_cons (ps_if (pt_cmpR op_eq (pe_ix ix_list (pv 0) pe_int (fun _ _ => rfl)) pe_int (nomark _))
        (pss_cons (ps_set (i := 2) scTake.nd rfl (.inl rfl) (pe_op op_mod (pe_ix ix_list (pv 0) pe_int (fun _ _ => rfl)) (pv 1)))
        (pss_cons (ps_asg (pe_op op_fdivW (pe_ix ix_list (pv 0) pe_int (fun _ _ => rfl)) (pv 1)) (pg_sub (pv 0) pe_int set_list (fun _ => rfl)))
        (pss_one (ps_ret (pv 2))))) pss_nil)
      (pss_cons (ps_asg (pe_op op_mod (pe_op op_add (pe_op op_add (pe_op op_mul (pe_ix ix_list (pv 0) pe_int (fun _ _ => rfl)) pe_int) (pe_op op_mul (pe_op op_mul pe_int (pe_ix ix_list (pv 0) pe_int (fun _ _ => rfl))) (pe_ix ix_list (pv 0) pe_int (fun _ _ => rfl)))) pe_int) pe_int) (pg_sub (pv 0) pe_int set_list (fun _ => rfl)))
      (pss_cons (ps_asg (pe_op op_add (pe_ix ix_list (pv 0) pe_int (fun _ _ => rfl)) pe_int) (pg_sub (pv 0) pe_int set_list (fun _ => rfl)))
      (pss_one (ps_ret (pe_op op_mod (pe_op op_fdiv (pe_op op_mod (pe_op op_mul (pe_ix ix_list (pv 0) pe_int (fun _ _ => rfl)) pe_int) pe_int) pe_int) (pv 1)))))), ?_⟩
    refine ⟨_, rfl, b, _, _, _, rfl, rfl, SqL.of hb, atI_nat (j := 1) rfl, rfl, _, rfl, ite2 (fun e => ?_) (fun e => ?_)⟩
    · refine ⟨_, rfl, b, _, _, _, rfl, rfl, SqL.of hb, atI_nat (j := 0) rfl, _, rfl, _, _, rfl, rfl, h0, ?_⟩
      refine ⟨_, rfl, b, _, _, _, rfl, rfl, SqL.of hb, atI_nat (j := 0) rfl, _, rfl, _, _, rfl, rfl, wide_div (b := 60) h0 (by omega) (by decide) (by decide), _, rfl, b, _, _, 0, rfl, rfl, hb, rfl, ?_⟩
      have ey : y = 0 := V.int.inj (of_decide_eq_true e)
      refine ⟨_, rfl, q _ _ (Int.emod_nonneg _ (by omega)) (Int.emod_lt_of_pos _ h0) (fun r o n h => by rw [upd_ne n]; exact h) (fun r n => upd_ne n) ⟨_, y, upd_same, Int.ediv_nonneg hx (by omega), hy, by omega, .inl ey⟩⟩
    · have ny : y ≠ 0 := fun z => e (decide_eq_true (congrArg V.int z))
      have hx2 : x < 2147483647 := hxy.resolve_left ny
      refine ⟨_, rfl, b, _, _, _, rfl, rfl, SqL.of hb, atI_nat (j := 0) rfl, _, _, rfl, rfl, .inl ⟨by omega, by omega⟩, _, rfl, b, _, _, _, rfl, rfl, SqL.of hb, atI_nat (j := 1) rfl, _, _, rfl, rfl, .inl ⟨by omega, by omega⟩, _, rfl, b, _, _, _, rfl, rfl, SqL.of hb, atI_nat (j := 1) rfl, _, _, rfl, rfl, .inr ⟨by omega, by omega⟩, _, _, rfl, rfl, _, _, rfl, rfl, _, _, rfl, rfl, (by show (0 : Int) < 2147483647; decide), _, rfl, b, _, _, 0, rfl, rfl, hb, rfl, ?_⟩
      have m0 : ∀ z : Int, 0 ≤ z % 2147483647 := fun z => Int.emod_nonneg _ (by decide)
      have m1 : ∀ z : Int, z % 2147483647 < 2147483647 := fun z => Int.emod_lt_of_pos _ (by decide)
      dsimp only
      generalize hz : (x * 48271 + 7919 * y * y + 17) % 2147483647 = z at *
      have z0 : 0 ≤ z := hz ▸ m0 _
      have z1 : z < 2147483647 := hz ▸ m1 _
      have hb2 : (upd H b (.lst ([V.int x, V.int y].set 0 (.int z)))) b = some (.lst [.int z, .int y]) := upd_same
      refine ⟨_, rfl, b, _, _, _, rfl, rfl, SqL.of hb2, atI_nat (j := 1) rfl, _, _, rfl, rfl, _, rfl, b, _, _, 1, rfl, rfl, hb2, rfl, ?_⟩
      refine ⟨_, rfl, b, [.int z, .int (y + 1)], _, _, rfl, rfl, SqL.of upd_same, atI_nat (j := 0) rfl, _, _, rfl, rfl, .inl ⟨by omega, by omega⟩, _, _, rfl, rfl, (by show (0 : Int) < 2147483629; decide), _, _, rfl, rfl, ⟨by decide, by decide⟩, _, rfl, _, _, rfl, rfl, h0, ?_⟩
      exact q _ _ (Int.emod_nonneg _ (by omega)) (Int.emod_lt_of_pos _ h0) (fun r o n h => by rw [upd_ne n, upd_ne n]; exact h) (fun r n => by rw [upd_ne n, upd_ne n]) ⟨z, y + 1, upd_same, z0, by omega, by omega, .inr z1⟩
end

/-! ### _law_prime -/
section
variable {P : Program} {w : World} {K : PySem.W.Frag} {mg : Str → Option Value} {base : Heap}
abbrev sPrime : Stmt := topS 13

theorem scPrime : FnScope ["_law_bag_here"] ["_law_bag_here"] (defScope sPrime) := ⟨rfl, rfl, rfl, by decide +kernel, rfl, by decide +kernel, by decide +kernel⟩

def spPrime : Sp := fun vs H Q _ => ∃ (b : Addr) (c : Nat), vs = [.ref b] ∧ Bg H b c ∧ c < 2 ^ 40 ∧ ∀ p H', P5 p → Off b H H' → Bg H' b (c + 1) → Q (.int p) H'

theorem ok_prime {f fT : Addr} {fd fdT : FuncData} {k : Nat} (F : Fun K "_law_prime" "_law_prime" sPrime f fd)
    (GT : FnOk P w K mg base CX0 (k + 1) fT fdT ["_law_bag_here", "_law_many"] spTake) (bT : Binds K fdT ["_law_bag_here", "_law_many"] []) (kT : PySem.W.keepIn K (.ref fT) = true) (mT : mg "_law_take" = some (.ref fT)) :
    FnOk P w K mg base CX0 (k + 2) f fd ["_law_bag_here"] spPrime := by
  refine F.ok scPrime (fun vs H Q E h => ?_) (fun cdv A outer s H vs Q E hr h => ?_)
  · obtain ⟨a, c, rfl, _⟩ := h
    rfl
  · obtain ⟨b, c, rfl, hb, hc, q⟩ := h
    refine ⟨_, pss_one (ps_ret (pe_ix ix_list (pe_lst (pa_cons pe_int (pa_cons pe_int (pa_cons pe_int (pa_cons pe_int (pa_cons pe_int pa_nil)))))) (pe_call GT hr (by rfl) mT kT bT .nil pass0 (pa_cons (pv 0) (pa_cons pe_int pa_nil))) (fun _ _ => rfl))), ?_⟩
    refine ⟨(by show 5 ≤ sizeLine; decide), fun l nl => ?_⟩
    have nb := hb.ne nl
    refine ⟨_, rfl, ⟨b, 5, c, rfl, by decide, by decide, hb.same (upd_ne nb.symm), hc, fun d H' d0 d5 off hq hb' => ?_⟩⟩
    have hl : H' l = some (.lst [.int 2, .int 3, .int 5, .int 7, .int 11]) := off _ _ nb upd_same
    have off2 : Off b H H' := fun r o n e => off r o n (by rw [upd_ne (ne_of_none e nl)]; exact e)
    have cs : d = 0 ∨ d = 1 ∨ d = 2 ∨ d = 3 ∨ d = 4 := by omega
    rcases cs with rfl | rfl | rfl | rfl | rfl
    · exact ⟨l, _, _, _, rfl, rfl, SqL.of hl, atI_nat (j := 0) rfl, q _ _ (.inl rfl) off2 hb'⟩
    · exact ⟨l, _, _, _, rfl, rfl, SqL.of hl, atI_nat (j := 1) rfl, q _ _ (.inr (.inl rfl)) off2 hb'⟩
    · exact ⟨l, _, _, _, rfl, rfl, SqL.of hl, atI_nat (j := 2) rfl, q _ _ (.inr (.inr (.inl rfl))) off2 hb'⟩
    · exact ⟨l, _, _, _, rfl, rfl, SqL.of hl, atI_nat (j := 3) rfl, q _ _ (.inr (.inr (.inr (.inl rfl)))) off2 hb'⟩
    · exact ⟨l, _, _, _, rfl, rfl, SqL.of hl, atI_nat (j := 4) rfl, q _ _ (.inr (.inr (.inr (.inr rfl)))) off2 hb'⟩
end

/-! ### _law_sparse -/
section
variable {P : Program} {w : World} {K : PySem.W.Frag} {mg : Str → Option Value} {base : Heap}
abbrev sSparse : Stmt := topS 14

theorem scSparse : FnScope ["_law_p", "_law_length", "_law_bag_here", "_law_row", "_law_some", "_law_k", "_law_number"] ["_law_p", "_law_length", "_law_bag_here"] (defScope sSparse) := ⟨rfl, rfl, rfl, by decide +kernel, rfl, by decide +kernel, by decide +kernel⟩

def spSparse : Sp := fun vs H Q _ => ∃ (p : Int) (n : Nat) (b : Addr) (c : Nat), vs = [.int p, .int (n : Int), .ref b] ∧ 0 < p ∧ p ≤ 11 ∧ n ≤ 100 ∧ Bg H b c ∧ c < 2 ^ 30 ∧ ∀ q row H', Wf p n row → Off b H H' → H q = none → IL H' q row → Bg H' b (c + 1 + 2 * n) → Q (.ref q) H'

theorem ok_sparse {f fT : Addr} {fd fdT : FuncData} {k : Nat} (F : Fun K "_law_sparse" "_law_sparse" sSparse f fd)
    (GT : FnOk P w K mg base CX0 (k + 1) fT fdT ["_law_bag_here", "_law_many"] spTake) (bT : Binds K fdT ["_law_bag_here", "_law_many"] []) (kT : PySem.W.keepIn K (.ref fT) = true) (mT : mg "_law_take" = some (.ref fT))
    (mr : mg "range" = none) (mi : mg "int" = none) : FnOk P w K mg base CX0 (k + 2) f fd ["_law_p", "_law_length", "_law_bag_here"] spSparse := by
  refine F.ok scSparse (fun vs H Q E h => ?_) (fun cdv A outer s H vs Q E hr h => ?_)
  · obtain ⟨p, n, b, c, rfl, _⟩ := h
    rfl
  · obtain ⟨p, n, b, c, rfl, hp, hp2, hn, hb, hc, q⟩ := h
    refine ⟨_, pss_cons (ps_set (i := 3) scSparse.nd rfl (.inl rfl) (pe_lst pa_nil))
      (pss_cons (ps_set (i := 4) scSparse.nd rfl (.inl rfl) (pe_op op_add pe_int (pe_call GT hr (by rfl) mT kT bT .nil pass0 (pa_cons (pv 2) (pa_cons pe_int pa_nil)))))
      (pss_cons (ps_for PassesOwn.never rfl (pi_range1 rfl mr (pa_cons (pv 1) pa_nil)) (pg_name (i := 5) scSparse.nd rfl (Or.inl rfl))
        (pss_cons (ps_set (i := 6) scSparse.nd rfl (.inl rfl) (pe_call GT hr (by rfl) mT kT bT .nil pass0 (pa_cons (pv 2) (pa_cons (pv 0) pa_nil))))
        (pss_one (ps_expr (pe_bm PySem.F.plainAttrs_list PySem.F.slot_list_append PySem.F.type_list_append mt_append (pv 3) (pa_cons (pe_op op_mul (pv 6) (pe_callTy call_int1 (by rfl) mi (by decide +kernel) (pa_cons (pe_cmpR op_lt (pe_call GT hr (by rfl) mT kT bT .nil pass0 (pa_cons (pv 2) (pa_cons pe_int pa_nil))) (pv 4) (nomark _)) pa_nil))) pa_nil))))))
      (pss_one (ps_ret (pv 3))))), ?_⟩
    refine ⟨Nat.zero_le _, fun l nl => ?_⟩
    have nb := hb.ne nl
    refine ⟨_, rfl, ⟨b, 4, c, rfl, by decide, by decide, hb.same (upd_ne nb.symm), by omega, fun d H' d0 d1 off hq hb' => ?_⟩⟩
    have il0 : IL H' l [] := off _ _ nb upd_same
    have off0 : Off b H H' := fun r o n e => off r o n (by rw [upd_ne (ne_of_none e nl)]; exact e)
    refine ⟨_, _, rfl, rfl, _, rfl, (n : Int), rfl, by omega, by omega, ?_⟩
    refine for_range (lo := 0) (n := n) (fun i σ H2 => ∃ (row : List Int) (y5 y6 : Option V), σ = [some (.int p), some (.int (n : Int)), some (.ref b), some (.ref l), some (.int (1 + d)), y5, y6] ∧ Wf p i row ∧ Off b H H2 ∧ IL H2 l row ∧ Bg H2 b (c + 1 + 2 * i)) ⟨[], none, none, rfl, ⟨rfl, fun x hx => by simp at hx⟩, off0, il0, hb'⟩ (fun i σ H2 hi hW => ?_) (fun σ H2 hW => ?_)
    · obtain ⟨row, y5, y6, rfl, wr, off1, il1, hb1⟩ := hW
      refine ⟨_, rfl, _, rfl, ⟨b, p, c + 1 + 2 * i, rfl, hp, by omega, hb1, by omega, fun x H3 x0 x1 off2 hq2 hb2 => ?_⟩⟩
      have il2 : IL H3 l row := off2 _ _ nb il1
      refine ⟨_, rfl, .inl ⟨rfl, _, SqL.of il2⟩, _, rfl, _, rfl, ⟨b, 4, c + 1 + 2 * i + 1, rfl, by decide, by decide, hb2, by omega, fun y H4 y0 y1 off3 hq3 hb3 => ?_⟩⟩
      have il3 : IL H4 l row := off3 _ _ nb il2
      refine ⟨_, rfl, _, _, rfl, rfl, .inr ⟨_, rfl, ?_⟩⟩
      have bit : ∀ k : Bool, (0 : Int) ≤ (if k = true then 1 else 0) ∧ (if k = true then (1 : Int) else 0) ≤ 1 := fun k => by cases k <;> decide
      have bb := bit (decide (y < 1 + d))
      generalize (if decide (y < 1 + d) = true then (1 : Int) else 0) = z at *
      refine ⟨_, _, rfl, rfl, .inl ⟨by omega, by omega⟩, l, _, _, rfl, rfl, il3, by rw [List.length_map, wr.len]; exact small1000 (by omega), ?_⟩
      have zz : 0 ≤ x * z ∧ x * z < p := by
        have cs : z = 0 ∨ z = 1 := by omega
        rcases cs with rfl | rfl
        · rw [Int.mul_zero]; omega
        · rw [Int.mul_one]; omega
      refine ⟨row ++ [x * z], _, _, rfl, ⟨by rw [List.length_append, wr.len]; rfl, fun u hu => ?_⟩, ?_, ?_, ?_⟩
      · rcases List.mem_append.mp hu with h | h
        · exact wr.rng u h
        · rw [List.mem_singleton.mp h]
          exact zz
      · exact ((off1.trans off2).trans off3).new nl
      · show (upd H4 l _) l = _
        rw [upd_same]
        simp
      · have e : c + 1 + 2 * (i + 1) = c + 1 + 2 * i + 1 + 1 := by omega
        rw [e]
        exact hb3.same (upd_ne nb.symm)
    · obtain ⟨row, y5, y6, rfl, wr, off1, il1, hb1⟩ := hW
      exact ⟨_, rfl, q l row H2 wr off1 nl il1 hb1⟩
end

/-! ### _law_rows -/
section
variable {P : Program} {w : World} {K : PySem.W.Frag} {mg : Str → Option Value} {base : Heap}
abbrev sRows : Stmt := topS 15

abbrev nRows : List Str := ["_law_p", "_law_length", "_law_many", "_law_bag_here", "_law_rows_here", "_law_k", "_law_row", "_law_one", "_law_other", "_law_rest", "_law_a", "_law_b"]

theorem scRows : FnScope nRows ["_law_p", "_law_length", "_law_many", "_law_bag_here"] (defScope sRows) := ⟨rfl, rfl, rfl, by decide +kernel, rfl, by decide +kernel, by decide +kernel⟩

def spRows : Sp := fun vs H Q _ => ∃ (p : Int) (n many : Nat) (b : Addr) (c : Nat), vs = [.int p, .int (n : Int), .int (many : Int), .ref b] ∧ 0 < p ∧ p ≤ 11 ∧ n ≤ 100 ∧ many ≤ 100 ∧ Bg H b c ∧ c < 2 ^ 20 ∧
  ∀ q rs M H', Wfs p n M → M.length = many → Off b H H' → H q = none → Tab H' q rs M → (∀ r ∈ rs, H r = none) → Bg H' b (c + many * (2 * n + 5)) → Q (.ref q) H'

theorem ok_rows {f fT fS : Addr} {fd fdT fdS : FuncData} {k : Nat} (F : Fun K "_law_rows" "_law_rows" sRows f fd)
    (GT : FnOk P w K mg base CX0 (k + 2) fT fdT ["_law_bag_here", "_law_many"] spTake) (bT : Binds K fdT ["_law_bag_here", "_law_many"] []) (kT : PySem.W.keepIn K (.ref fT) = true) (mT : mg "_law_take" = some (.ref fT))
    (GS : FnOk P w K mg base CX0 (k + 2) fS fdS ["_law_p", "_law_length", "_law_bag_here"] spSparse) (bS : Binds K fdS ["_law_p", "_law_length", "_law_bag_here"] []) (kS : PySem.W.keepIn K (.ref fS) = true) (mS : mg "_law_sparse" = some (.ref fS))
    (mr : mg "range" = none) (ml : mg "len" = none) (mz : mg "zip" = none) : FnOk P w K mg base CX0 (k + 3) f fd ["_law_p", "_law_length", "_law_many", "_law_bag_here"] spRows := by
  refine F.ok scRows (fun vs H Q E h => ?_) (fun cdv A outer s H vs Q E hr h => ?_)
  · obtain ⟨p, n, many, b, c, rfl, _⟩ := h
    rfl
  · obtain ⟨p, n, many, b, c, rfl, hp, hp2, hn, hmany, hb, hc, q⟩ := h
    refine ⟨_, pss_cons (ps_set (i := 4) scRows.nd rfl (.inl rfl) (pe_lst pa_nil))
      (pss_cons (ps_for PassesOwn.never rfl (pi_range1 rfl mr (pa_cons (pv 2) pa_nil)) (pg_name (i := 5) scRows.nd rfl (Or.inl rfl))
        (pss_cons (ps_set (i := 6) scRows.nd rfl (.inl rfl) (pe_call GS hr (by rfl) mS kS bS .nil pass0 (pa_cons (pv 0) (pa_cons (pv 1) (pa_cons (pv 3) pa_nil)))))
        (C8.pss_cut (ps_if (PW.pt (pw_and (pt_cmpR op_gt (pe_callB call_len_seq (by rfl) ml PySem.boot_len (pa_cons (pv 4) pa_nil)) pe_int (nomark _)) (pw_and1 (pt_cmpR op_eq (pe_call GT hr (by rfl) mT kT bT .nil pass0 (pa_cons (pv 3) (pa_cons pe_int pa_nil))) pe_int (nomark _)))))
          (pss_cons (ps_set (i := 7) scRows.nd rfl (.inl rfl) (pe_ix ix_list (pv 4) (pe_call GT hr (by rfl) mT kT bT .nil pass0 (pa_cons (pv 3) (pa_cons (pe_callB call_len_seq (by rfl) ml PySem.boot_len (pa_cons (pv 4) pa_nil)) pa_nil))) (fun _ _ => rfl)))
          (pss_cons (ps_set (i := 8) scRows.nd rfl (.inl rfl) (pe_ix ix_list (pv 4) (pe_call GT hr (by rfl) mT kT bT .nil pass0 (pa_cons (pv 3) (pa_cons (pe_callB call_len_seq (by rfl) ml PySem.boot_len (pa_cons (pv 4) pa_nil)) pa_nil))) (fun _ _ => rfl)))
          (pss_cons (ps_set (i := 9) scRows.nd rfl (.inr rfl) (pe_call GT hr (by rfl) mT kT bT .nil pass0 (pa_cons (pv 3) (pa_cons (pv 0) pa_nil))))
          (pss_one (ps_setLc (i := 6) (own := [("_law_a", 10), ("_law_b", 11)]) (g := gTup K 2 (gCons (gName 10) (gCons (gName 11) gNil))) (tt := tYes) (by rfl) scRows.nd rfl rfl (sw_true rfl rfl rfl (by decide +kernel)) (pi_zip (by rfl) mz (pa_cons (pv 7) (pa_cons (pv 8) pa_nil))) (blkOk_by (own := [("_law_a", 10), ("_law_b", 11)]) (N := nRows) (sc := defScope sRows) (by decide +kernel))
            (fun _ _ _ _ _ => pg_tup rfl (pgs_cons (pg_name (i := 10) scRows.nd rfl (Or.inl rfl)) (pgs_cons (pg_name (i := 11) scRows.nd rfl (Or.inl rfl)) pgs_nil))) (fun _ _ _ _ _ => pts_nil)
            (fun _ _ _ _ _ => pe_op op_mod (pe_op op_add (pv 10) (pe_op op_mul (pv 9) (pv 11))) (pv 0)))))))
          pss_nil)
        (pss_one (ps_expr (pe_bm PySem.F.plainAttrs_list PySem.F.slot_list_append PySem.F.type_list_append mt_append (pv 4) (pa_cons (pv 6) pa_nil)))))))
      (pss_one (ps_ret (pv 4)))), ?_⟩
    refine ⟨Nat.zero_le _, fun l nl => ?_⟩
    have nb := hb.ne nl
    refine ⟨_, rfl, (many : Int), rfl, by omega, by omega, ?_⟩
    refine for_range (lo := 0) (n := many) (fun i σ H' => ∃ rs M y5 y6 y7 y8 y9 y10 y11, σ = [some (.int p), some (.int (n : Int)), some (.int (many : Int)), some (.ref b), some (.ref l), y5, y6, y7, y8, y9, y10, y11] ∧ M.length = i ∧ RowI p n b (c + i * (2 * n + 5)) H l rs M H')
      ⟨[], [], none, none, none, none, none, none, none, rfl, rfl, (Off.refl b H).new nl, ⟨upd_same, rfl, fun i r m hr => by simp at hr⟩, fun m hm => by simp at hm, fun r hr => by simp at hr, by rw [Nat.zero_mul, Nat.add_zero]; exact hb.same (upd_ne nb.symm)⟩ (fun i σ H' hi hW => ?_) (fun σ H' hW => ?_)
    · obtain ⟨rs, M, y5, y6, y7, y8, y9, y10, y11, rfl, hM, I⟩ := hW
      have bound : i * (2 * n + 5) ≤ 100 * 205 := Nat.mul_le_mul (by omega) (by omega)
      have es : c + (i + 1) * (2 * n + 5) = c + i * (2 * n + 5) + (2 * n + 5) := by rw [Nat.add_mul, Nat.one_mul]; omega
      generalize hci : c + i * (2 * n + 5) = ci at *
      refine ⟨_, rfl, _, rfl, _, rfl, ⟨p, n, b, ci, rfl, hp, hp2, hn, I.bag, by omega, fun r0 row0 H1 w0 off1 n0 il0 bag1 => ?_⟩⟩
      have nbr : ∀ r ∈ rs, r ≠ b := fun r hr e => by
        obtain ⟨m, _, hm⟩ := IL.ref I.tab hr
        have z := I.fresh r hr
        rw [e] at z
        obtain ⟨x, y, h1, _⟩ := hb
        rw [h1] at z
        cases z
      have T1 : Tab H1 l rs M := I.tab.off off1 nb nbr
      have n00 : r0 ≠ b := I.bag.ne n0
      refine ⟨fun σ' H2 => ∃ r row y7 y8 y9 y10 y11, σ' = [some (.int p), some (.int (n : Int)), some (.int (many : Int)), some (.ref b), some (.ref l), some (.int (0 + (i : Int))), some (.ref r), y7, y8, y9, y10, y11] ∧ Off b H' H2 ∧ Wf p n row ∧ IL H2 r row ∧ H' r = none ∧ Tab H2 l rs M ∧ Bg H2 b (ci + (2 * n + 5)), ?_, fun σ' H2 hW => ?_⟩
      · refine ⟨_, rfl, l, _, rfl, .inl (SqL.of T1.at_), _, _, rfl, rfl, _, rfl, ite2 (fun c1 => ?_) (fun c1 => iteF ?_)⟩
        · refine ⟨_, rfl, ⟨b, 3, _, rfl, by decide, by decide, bag1, by omega, fun d H2 d0 d1 off2 hq2 bag2 => ?_⟩⟩
          have T2 : Tab H2 l rs M := T1.off off2 nb nbr
          have il2 := off2 _ _ n00 il0
          refine ⟨rfl, _, rfl, ite2 (fun c2 => ?_) (fun c2 => ?_)⟩
          · have lenM : (rf rs).length = M.length := by rw [List.length_map, T1.len]
            have posM : 0 < M.length := by
              have := of_decide_eq_true c1
              rw [lenM] at this
              omega
            refine ⟨_, rfl, _, rfl, _, rfl, l, _, rfl, .inl (SqL.of T2.at_), ⟨b, _, _, rfl, by rw [lenM]; omega, by rw [lenM]; omega, bag2, by omega, fun d3 H3 e0 e1 off3 hq3 bag3 => ?_⟩⟩
            rw [lenM] at e1
            obtain ⟨j1, rfl⟩ := Int.eq_ofNat_of_zero_le e0
            obtain ⟨m1, hm1⟩ := get_of (l := M) (i := j1) (by omega)
            obtain ⟨r1, hr1⟩ := get_of (l := rs) (i := j1) (by have := T1.len; omega)
            have T3 : Tab H3 l rs M := T2.off off3 nb nbr
            refine ⟨l, _, _, _, rfl, rfl, SqL.of T3.at_, atI_nat (rf_get hr1), ?_⟩
            refine ⟨_, rfl, _, rfl, _, rfl, l, _, rfl, .inl (SqL.of T3.at_), ⟨b, _, _, rfl, by rw [lenM]; omega, by rw [lenM]; omega, bag3, by omega, fun d4 H4 e2 e3 off4 hq4 bag4 => ?_⟩⟩
            rw [lenM] at e3
            obtain ⟨j2, rfl⟩ := Int.eq_ofNat_of_zero_le e2
            obtain ⟨m2, hm2⟩ := get_of (l := M) (i := j2) (by omega)
            obtain ⟨r2, hr2⟩ := get_of (l := rs) (i := j2) (by have := T1.len; omega)
            have T4 : Tab H4 l rs M := T3.off off4 nb nbr
            refine ⟨l, _, _, _, rfl, rfl, SqL.of T4.at_, atI_nat (rf_get hr2), ?_⟩
            refine ⟨_, rfl, _, rfl, ⟨b, _, _, rfl, hp, by omega, bag4, by omega, fun d5 H5 e4 e5 off5 hq5 bag5 => ?_⟩⟩
            have T5 : Tab H5 l rs M := T4.off off5 nb nbr
            have w1 := I.wf m1 (List.mem_of_getElem? hm1)
            have w2 := I.wf m2 (List.mem_of_getElem? hm2)
            have il1 := T5.row j1 r1 m1 hr1 hm1
            have il22 := T5.row j2 r2 m2 hr2 hm2
            have off05 : Off b H' H5 := (((off1.trans off2).trans off3).trans off4).trans off5
            have wmix := mixR_wf (c := d5) hp w1 w2
            refine ⟨_, rfl, _, rfl, r1, r2, _, _, rfl, IL.sq il1, IL.sq il22, fun D hD => ?_⟩
            refine lc_it (walk_zip (K := K) (a := r1) (b := r2) (xs := iv m1) (ys := iv m2) (n := n) (by rw [List.length_map, List.length_map, w1.len, w2.len, Nat.min_self])) (fun j H6 => Mk H5 D (mixR p d5 m1 m2) j H6) (Mk.start hD) (fun j H6 _ mk => ⟨mk.same.seq (IL.sq il1), mk.same.seq (IL.sq il22)⟩) (fun j x H6 H7 hj mk y => ?_) (fun H6 mk => ?_)
            · obtain ⟨T, x1, x2, rfl, nT, rfl, g1, g2⟩ := y
              obtain ⟨z1, hz1, rfl⟩ := iv_inv g1
              obtain ⟨z2, hz2, rfl⟩ := iv_inv g2
              refine ⟨T, _, rfl, .inl (.inl upd_same), rfl, _, _, rfl, _, _, rfl, rfl, rfl, ?_⟩
              refine t_yes ?_
              refine ⟨_, rfl, _, rfl, _, rfl, _, _, rfl, rfl, .inl ⟨by omega, by omega⟩, _, _, rfl, rfl, _, rfl, _, _, rfl, rfl, hp, ?_⟩
              exact mk.step hD (same_new nT) (mixR_get hz1 hz2) (by rw [wmix.len]; omega)
            · refine ⟨D, _, _, _, _, _, _, rfl, off05.trans (Off.of mk.same), wmix, mk.done (by rw [wmix.len]), off05.free hD (bag5.ne hD), T5.same mk.same, ?_⟩
              have z := bag5.mono (d := ci + (2 * n + 5)) (by omega)
              obtain ⟨x, y, h1, h2⟩ := z
              exact ⟨x, y, mk.same _ _ h1, h2⟩
          · exact ⟨r0, row0, _, _, _, _, _, rfl, off1.trans off2, w0, il2, n0, T2, bag2.mono (by omega)⟩
        · exact ⟨r0, row0, _, _, _, _, _, rfl, off1, w0, il0, n0, T1, bag1.mono (by omega)⟩
      · obtain ⟨r, row, z7, z8, z9, z10, z11, rfl, off2, wr, il, nr, T2, bag2⟩ := hW
        have lenM : (rf rs).length = M.length := by rw [List.length_map, T1.len]
        refine ⟨_, rfl, .inl ⟨rfl, _, SqL.of T2.at_⟩, _, rfl, l, _, _, rfl, rfl, T2.at_, by rw [lenM]; exact small1000 (by omega), ?_⟩
        have nrl : r ≠ l := fun e => by
          rw [e, I.tab.at_] at nr
          cases nr
        have nrb : r ≠ b := fun e => by
          obtain ⟨x, y, h1, _⟩ := I.bag
          rw [e, h1] at nr
          cases nr
        refine ⟨rs ++ [r], M ++ [row], _, _, _, _, _, _, _, rfl, by rw [List.length_append, hM]; rfl, (I.off.trans off2).new nl, T2.push il nrl, fun m hm => ?_, fun x hx => ?_, ?_⟩
        · rcases List.mem_append.mp hm with h | h
          · exact I.wf m h
          · rw [List.mem_singleton.mp h]
            exact wr
        · rcases List.mem_append.mp hx with h | h
          · exact I.fresh x h
          · rw [List.mem_singleton.mp h]
            exact I.off.free nr nrb
        · rw [es]
          exact bag2.same (upd_ne nb.symm)
    · obtain ⟨rs, M, y5, y6, y7, y8, y9, y10, y11, rfl, hM, I⟩ := hW
      exact ⟨_, rfl, q l rs M H' I.wf hM I.off nl I.tab I.fresh I.bag⟩
end

/-! ### _law_back -/
section
variable {P : Program} {w : World} {K : PySem.W.Frag} {mg : Str → Option Value} {base : Heap}
abbrev sBack : Stmt := topS 16

theorem scBack : FnScope ["_law_p", "_law_rest", "_law_other"] ["_law_p", "_law_rest"] (defScope sBack) := ⟨rfl, rfl, rfl, by decide +kernel, rfl, by decide +kernel, by decide +kernel⟩

def spBack : Sp := fun vs H Q _ => ∃ (p r : Int), vs = [.int p, .int r] ∧ P5 p ∧ 0 < r ∧ r < p ∧ ∀ H', Same H H' → Q (.int (invM p r)) H'

theorem ok_back {f : Addr} {fd : FuncData} {k : Nat} (F : Fun K "_law_back" "_law_back" sBack f fd) (mr : mg "range" = none) : FnOk P w K mg base CX0 (k + 1) f fd ["_law_p", "_law_rest"] spBack := by
  refine F.ok scBack (fun vs H Q E h => ?_) (fun cdv A outer s H vs Q E hr h => ?_)
  · obtain ⟨p, r, rfl, _⟩ := h
    rfl
  · obtain ⟨p, r, rfl, hp, h0, h1, q⟩ := h
    have le := hp.le
    have two := hp.two
    obtain ⟨i1, i2, i3⟩ := inv_ok hp h0 h1
    refine ⟨_, pss_one (ps_ret (pe_ix ix_list (pe_lc (own := [("_law_other", 2)]) (g := gName 2) (by rfl) scBack.nd (pi_range1 rfl mr (pa_cons (pv 0) pa_nil)) (blkOk_by (own := [("_law_other", 2)]) (N := ["_law_p", "_law_rest", "_law_other"]) (sc := defScope sBack) (by decide +kernel))
      (fun _ _ _ _ _ => pg_name (i := 2) scBack.nd rfl (Or.inl rfl)) (fun _ _ _ _ _ => pts_one (pt_cmpR op_eq (pe_op op_mod (pe_op op_mul (pv 2) (pv 1)) (pv 0)) pe_int (nomark _)))
      (fun _ _ _ _ _ => pv 2)) pe_int (fun _ _ => rfl))), ?_⟩
    refine ⟨_, rfl, p, rfl, by omega, by omega, fun D hD => ?_⟩
    refine lc_range (lo := 0) (n := p.toNat) (fun i H' => Same H H' ∧ H' D = some (.lst (if invM p r < i then [.int (invM p r)] else []))) ⟨same_new hD, by rw [if_neg (by omega), upd_same]⟩ (fun i H' hi hW => ?_) (fun H' hW => ?_)
    · obtain ⟨sm, e⟩ := hW
      refine ⟨rfl, ?_⟩
      have iz : (0 : Int) + (i : Int) = (i : Int) := Int.zero_add _
      rw [iz]
      refine ⟨_, rfl, _, rfl, _, _, rfl, rfl, .inl ⟨by omega, by omega⟩, _, rfl, _, _, rfl, rfl, (by show 0 < p; omega), rfl, _, rfl, ?_⟩
      have i4 := i3 (i : Int) (by omega) (by omega)
      refine ite2 (fun c => ?_) (fun c => ?_)
      · have ei : (i : Int) = invM p r := i4.mp (V.int.inj (of_decide_eq_true c))
        rw [if_neg (by omega)] at e
        refine ⟨_, rfl, _, e, by decide, same_upd hD sm, ?_⟩
        rw [upd_same, if_pos (by omega), ei]
        rfl
      · have ei : (i : Int) ≠ invM p r := fun z => c (decide_eq_true (congrArg V.int (i4.mpr z)))
        refine ⟨sm, ?_⟩
        rw [e]
        by_cases h : invM p r < (i : Int)
        · rw [if_pos h, if_pos (by omega)]
        · rw [if_neg h, if_neg (by omega)]
    · obtain ⟨sm, e⟩ := hW
      rw [if_pos (by omega)] at e
      exact ⟨D, _, _, _, rfl, rfl, SqL.of e, atI_nat (j := 0) rfl, q H' sm⟩
end

/-! ### _law_less -/
section
variable {P : Program} {w : World} {K : PySem.W.Frag} {mg : Str → Option Value} {base : Heap}
abbrev sLess : Stmt := topS 17

abbrev nLess : List Str := ["_law_p", "_law_row", "_law_rest", "_law_other", "_law_a", "_law_b"]

theorem scLess : FnScope nLess ["_law_p", "_law_row", "_law_rest", "_law_other"] (defScope sLess) := ⟨rfl, rfl, rfl, by decide +kernel, rfl, by decide +kernel, by decide +kernel⟩

def spLess : Sp := fun vs H Q _ => ∃ (p c : Int) (n : Nat) (a b : Addr) (m bm : Row), vs = [.int p, .ref a, .int c, .ref b] ∧ 0 < p ∧ p ≤ 11 ∧ n ≤ 1000 ∧ 0 ≤ c ∧ c < 1000 ∧ IL H a m ∧ Wf p n m ∧ IL H b bm ∧ Wf p n bm ∧ ∀ H' q, Same H H' → H q = none → IL H' q (lessR p m c bm) → Q (.ref q) H'

theorem ok_less {f : Addr} {fd : FuncData} {k : Nat} (F : Fun K "_law_less" "_law_less" sLess f fd) (mz : mg "zip" = none) : FnOk P w K mg base CX0 (k + 1) f fd ["_law_p", "_law_row", "_law_rest", "_law_other"] spLess := by
  refine F.ok scLess (fun vs H Q E h => ?_) (fun cdv A outer s H vs Q E hr h => ?_)
  · obtain ⟨p, c, n, a, b, m, bm, rfl, _⟩ := h
    rfl
  · obtain ⟨p, c, n, a, b, m, bm, rfl, hp, hp2, hn, hc0, hc1, ha, wm, hb, wb, q⟩ := h
    refine ⟨_, pss_one (ps_ret (pe_lc (own := [("_law_a", 4), ("_law_b", 5)]) (g := gTup K 2 (gCons (gName 4) (gCons (gName 5) gNil))) (tt := tYes) (by rfl) scLess.nd (pi_zip (by rfl) mz (pa_cons (pv 1) (pa_cons (pv 3) pa_nil))) (blkOk_by (own := [("_law_a", 4), ("_law_b", 5)]) (N := nLess) (sc := defScope sLess) (by decide +kernel))
      (fun _ _ _ _ _ => pg_tup rfl (pgs_cons (pg_name (i := 4) scLess.nd rfl (Or.inl rfl)) (pgs_cons (pg_name (i := 5) scLess.nd rfl (Or.inl rfl)) pgs_nil))) (fun _ _ _ _ _ => pts_nil)
      (fun _ _ _ _ _ => pe_op op_mod (pe_op op_sub (pv 4) (pe_op op_mul (pv 2) (pv 5))) (pv 0)))), ?_⟩
    have hlm := wm.len
    have hlb := wb.len
    refine ⟨_, rfl, _, rfl, a, b, _, _, rfl, IL.sq ha, IL.sq hb, fun D hD => ?_⟩
    refine lc_it (walk_zip (K := K) (a := a) (b := b) (xs := iv m) (ys := iv bm) (n := n) (by rw [List.length_map, List.length_map, hlm, hlb, Nat.min_self])) (fun j H' => Mk H D (lessR p m c bm) j H') (Mk.start hD) (fun j H' _ mk => ⟨mk.same.seq (IL.sq ha), mk.same.seq (IL.sq hb)⟩) (fun j x H3 H4 hj mk y => ?_) (fun H' mk => ?_)
    · obtain ⟨T, x1, x2, rfl, nT, rfl, g1, g2⟩ := y
      obtain ⟨z1, hz1, rfl⟩ := iv_inv g1
      obtain ⟨z2, hz2, rfl⟩ := iv_inv g2
      refine ⟨T, _, rfl, .inl (.inl upd_same), rfl, _, _, rfl, _, _, rfl, rfl, rfl, ?_⟩
      refine t_yes ?_
      refine ⟨_, rfl, _, rfl, _, rfl, _, _, rfl, rfl, .inl ⟨by omega, by omega⟩, _, _, rfl, rfl, _, rfl, _, _, rfl, rfl, hp, ?_⟩
      exact mk.step hD (same_new nT) (lessR_get hz1 hz2) (by rw [lessR_len wm wb]; exact hn)
    · exact q H' D mk.same hD (mk.done (by rw [lessR_len wm wb]))
end

/-! ### _law_form -/
section
variable {P : Program} {w : World} {K : PySem.W.Frag} {mg : Str → Option Value} {base : Heap}
abbrev sForm : Stmt := topS 18

abbrev nForm : List Str := ["_law_p", "_law_rows_here", "_law_row", "_law_left", "_law_found", "_law_place", "_law_some", "_law_back_here", "_law_k", "_law_number", "_law_other"]

theorem scForm : FnScope nForm ["_law_p", "_law_rows_here"] (defScope sForm) := ⟨rfl, rfl, rfl, by decide +kernel, rfl, by decide +kernel, by decide +kernel⟩

def spForm : Sp := fun vs H Q _ => ∃ (p : Int) (n : Nat) (a : Addr) (rs : List Addr) (M : List Row), vs = [.int p, .ref a] ∧ P5 p ∧ n ≤ 100 ∧ Tab H a rs M ∧ Wfs p n M ∧ M.length ≤ 200 ∧
  ∀ H' q qs, Same H H' → H q = none → Tab H' q qs (lowM p (invM p) M) → (∀ r ∈ qs, H r = none) → Q (.ref q) H'

theorem ok_form {f fB fL : Addr} {fd fdB fdL : FuncData} {k : Nat} (F : Fun K "_law_form" "_law_form" sForm f fd)
    (GB : FnOk P w K mg base CX0 (k + 1) fB fdB ["_law_p", "_law_rest"] spBack) (bB : Binds K fdB ["_law_p", "_law_rest"] []) (kB : PySem.W.keepIn K (.ref fB) = true) (mB : mg "_law_back" = some (.ref fB))
    (GL : FnOk P w K mg base CX0 (k + 1) fL fdL ["_law_p", "_law_row", "_law_rest", "_law_other"] spLess) (bL : Binds K fdL ["_law_p", "_law_row", "_law_rest", "_law_other"] []) (kL : PySem.W.keepIn K (.ref fL) = true) (mL : mg "_law_less" = some (.ref fL))
    (ml : mg "len" = none) (mr : mg "range" = none) (mt : mg "list" = none) : FnOk P w K mg base CX0 (k + 2) f fd ["_law_p", "_law_rows_here"] spForm := by
  refine F.ok scForm (fun vs H Q E h => ?_) (fun cdv A outer s H vs Q E hr h => ?_)
  · obtain ⟨p, n, a, rs, M, rfl, _⟩ := h
    rfl
  · obtain ⟨p, n, a, rs, M, rfl, hp, hn, hT, hM, hML, q⟩ := h
    refine ⟨_, pss_cons (ps_set (i := 3) scForm.nd rfl (.inr rfl) (pe_lc (own := [("_law_row", 2)]) (g := gName 2) (tt := tYes) (by rfl) scForm.nd (pi_list (pv 1)) (blkOk_by (own := [("_law_row", 2)]) (N := nForm) (sc := defScope sForm) (by decide +kernel))
        (fun _ _ _ _ _ => pg_name (i := 2) scForm.nd rfl (Or.inl rfl)) (fun _ _ _ _ _ => pts_nil) (fun _ _ _ _ _ => pe_callTy (cLst K rfl) (by rfl) mt (by decide +kernel) (pa_cons (pv 2) pa_nil))))
      (pss_cons (ps_set (i := 4) scForm.nd rfl (.inl rfl) (pe_lst pa_nil))
      (pss_cons (ps_set (i := 5) scForm.nd rfl (.inr rfl) pe_int)
      (pss_cons (ps_while PassesOwn.never (pt_imp (fun σ H Q => ∃ (la : Addr) (ls : List Addr) (L : List Row) (pl n : Nat), σ[3]? = some (some (V.ref la)) ∧ σ[5]? = some (some (V.int (pl : Int))) ∧ Tab H la ls L ∧ (∀ m ∈ L, m.length = n) ∧ Q (decide (0 < L.length ∧ pl < n)) H)
          (PW.pt (pw_and (pt_cmpR op_gt (pe_callB call_len_seq (by rfl) ml PySem.boot_len (pa_cons (pv 3) pa_nil)) pe_int (nomark _)) (pw_and1 (pt_cmpR op_lt (pv 5) (pe_callB call_len_seq (by rfl) ml PySem.boot_len (pa_cons (pe_ix ix_list (pv 3) pe_int (fun _ _ => rfl)) pa_nil)) (nomark _)))))
          (fun σ H Q h => by
            obtain ⟨la, ls, L, pl, n, e3, e5, t, hw, q⟩ := h
            refine ⟨_, e3, la, _, rfl, .inl (SqL.of t.at_), _, _, rfl, rfl, _, rfl, ?_⟩
            have lenl : (rf ls).length = L.length := by rw [List.length_map, t.len]
            rw [lenl]
            by_cases hj : 0 < L.length
            · rw [decide_eq_true (show (0 : Int) < (L.length : Int) by omega)]
              refine iteT ?_
              obtain ⟨m, hm⟩ := get_of hj
              obtain ⟨r, hr⟩ := get_of (l := ls) (i := 0) (by have := t.len; omega)
              have hrow := t.row 0 r m hr hm
              have lm := hw m (List.mem_of_getElem? hm)
              refine ⟨_, e5, _, e3, la, _, _, _, rfl, rfl, SqL.of t.at_, atI_nat (j := 0) (rf_get hr), r, _, rfl, .inl (IL.sq hrow), _, _, rfl, rfl, _, rfl, ?_⟩
              rw [List.length_map, lm]
              rw [show decide ((pl : Int) < (n : Int)) = decide (0 < L.length ∧ pl < n) from decide_eq_decide.mpr ⟨fun e => ⟨hj, by omega⟩, fun e => by omega⟩]
              exact q
            · rw [decide_eq_false (show ¬ (0 : Int) < (L.length : Int) by omega)]
              refine iteF ?_
              rw [decide_eq_false (fun e => hj e.1)] at q
              exact q))
        (pss_cons (ps_setLc (i := 6) (own := [("_law_k", 8)]) (g := gName 8) (by rfl) scForm.nd rfl rfl (sw_true rfl rfl rfl (by decide +kernel)) (pi_range1 rfl mr (pa_cons (pe_callB call_len_seq (by rfl) ml PySem.boot_len (pa_cons (pv 3) pa_nil)) pa_nil)) (blkOk_by (own := [("_law_k", 8)]) (N := nForm) (sc := defScope sForm) (by decide +kernel))
            (fun _ _ _ _ _ => pg_name (i := 8) scForm.nd rfl (Or.inl rfl)) (fun _ _ _ _ _ => pts_one (pt_cmpR op_ne (pe_ix (ixL K) (pe_ix (ixL K) (pv 3) (pv 8) (fun _ _ => rfl)) (pv 5) (fun _ _ => rfl)) pe_int (nomark _))) (fun _ _ _ _ _ => pv 8))
        (C8.pss_cut (ps_if (pt_cmpR op_gt (pe_callB call_len_seq (by rfl) ml PySem.boot_len (pa_cons (pv 6) pa_nil)) pe_int (nomark _))
            (pss_cons (ps_set (i := 2) scForm.nd rfl (.inr rfl) (pe_bm PySem.F.plainAttrs_list PySem.F.slot_list_pop PySem.F.type_list_pop mt_popAt (pv 3) (pa_cons (pe_ix ix_list (pv 6) pe_int (fun _ _ => rfl)) pa_nil)))
            (pss_cons (ps_set (i := 7) scForm.nd rfl (.inr rfl) (pe_call GB hr (by rfl) mB kB bB .nil pass0 (pa_cons (pv 0) (pa_cons (pe_ix ix_list (pv 2) (pv 5) (fun _ _ => rfl)) pa_nil))))
            (pss_cons (ps_set (i := 2) scForm.nd rfl (.inr rfl) (pe_lc (own := [("_law_number", 9)]) (g := gName 9) (tt := tYes) (by rfl) scForm.nd (pi_list (pv 2)) (blkOk_by (own := [("_law_number", 9)]) (N := nForm) (sc := defScope sForm) (by decide +kernel))
              (fun _ _ _ _ _ => pg_name (i := 9) scForm.nd rfl (Or.inl rfl)) (fun _ _ _ _ _ => pts_nil) (fun _ _ _ _ _ => pe_op op_mod (pe_op op_mul (pv 7) (pv 9)) (pv 0))))
            (pss_cons (ps_set (i := 3) scForm.nd rfl (.inr rfl) (pe_lc (own := [("_law_other", 10)]) (g := gName 10) (tt := tYes) (by rfl) scForm.nd (pi_list (pv 3)) (blkOk_by (own := [("_law_other", 10)]) (N := nForm) (sc := defScope sForm) (by decide +kernel))
              (fun _ _ _ _ _ => pg_name (i := 10) scForm.nd rfl (Or.inl rfl)) (fun _ _ _ _ _ => pts_nil) (fun _ _ _ _ _ => pe_call GL hr (by rfl) mL kL bL .nil pass0 (pa_cons (pv 0) (pa_cons (pv 10) (pa_cons (pe_ix (ixL K) (pv 10) (pv 5) (fun _ _ => rfl)) (pa_cons (pv 2) pa_nil)))))))
            (pss_one (ps_set (i := 4) scForm.nd rfl (.inl rfl) (pe_op op_cat (pe_lc (own := [("_law_other", 10)]) (g := gName 10) (tt := tYes) (by rfl) scForm.nd (pi_list (pv 4)) (blkOk_by (own := [("_law_other", 10)]) (N := nForm) (sc := defScope sForm) (by decide +kernel))
              (fun _ _ _ _ _ => pg_name (i := 10) scForm.nd rfl (Or.inl rfl)) (fun _ _ _ _ _ => pts_nil) (fun _ _ _ _ _ => pe_call GL hr (by rfl) mL kL bL .nil pass0 (pa_cons (pv 0) (pa_cons (pv 10) (pa_cons (pe_ix (ixL K) (pv 10) (pv 5) (fun _ _ => rfl)) (pa_cons (pv 2) pa_nil)))))) (pe_lst (pa_cons (pv 2) pa_nil)))))))))
            pss_nil)
        (pss_one (ps_set (i := 5) scForm.nd rfl (.inr rfl) (pe_op op_add (pv 5) pe_int))))))
      (pss_one (ps_ret (pv 4)))))), ?_⟩
    have two := hp.two
    have le := hp.le
    have hv := inv_is hp
    -- left
    refine ⟨_, rfl, a, rfl, ⟨_, SqL.of hT.at_⟩, fun la nla => ?_⟩
    refine lc_it (walk_list (K := K) (a := a) (xs := rf rs)) (fun i H' => ∃ qs, Mt H la [] M i H' qs) ⟨[], Mt.start nla⟩ (fun i H' _ ⟨qs, m⟩ => (m.same.seq (SqL.of hT.at_))) (fun i x H1 H2 hi ⟨qs, m⟩ y => ?_) (fun H2 ⟨ls, m⟩ => ?_)
    · obtain ⟨rfl, hx⟩ := y
      obtain ⟨r, hrr, rfl⟩ := rf_inv hx
      obtain ⟨mm, hm⟩ := get_of (l := M) (i := i) (by have := get_lt hrr; have := hT.len; omega)
      have hrow : IL H2 r mm := m.same _ _ (hT.row i r mm hrr hm)
      refine ⟨rfl, ?_⟩
      refine t_yes ?_
      refine ⟨_, rfl, r, _, rfl, .inl (IL.sq hrow), fun l nl => ?_⟩
      obtain ⟨acc, e1, e2, e3⟩ := m.step nla (fun r hr => by simp at hr) (same_new nl) hm upd_same (.inr nl) (by omega)
      exact ⟨acc, e1, e2, _, e3⟩
    have hlen : (rf rs).length = M.length := by rw [List.length_map, hT.len]
    have tl := m.tab hlen
    have sm2 := m.same
    -- found = []
    refine ⟨Nat.zero_le _, fun fa nfa => ?_⟩
    have start : FormI H (L2.upd H2 fa (.lst [])) fa la [] ls [] M := ⟨same_upd (same_none sm2 nfa) sm2, ⟨upd_same, rfl, fun i r mm hr => by simp at hr⟩, tl.same (same_new nfa), same_none sm2 nfa, nla, (fun e => by rw [e, tl.at_] at nfa; cases nfa), fun r hr => by simp at hr⟩
    refine step_name ?_
    dsimp only
    refine step_seq ?_
    refine step_asgC ?_
    dsimp only
    refine step_seq ?_
    show tWhile _ _ _ [some (.int p), some (.ref a), none, some (.ref la), some (.ref fa), some (.int ((0 : Nat) : Int)), none, none, none, none, none] _
    refine wh (fun m σ H' => ∃ fa la fs ls, ∃ pl : Nat, ∃ y2 y6 y7 y8 y9 y10, σ = [some (.int p), some (.ref a), y2, some (.ref la), some (.ref fa), some (.int (pl : Int)), y6, y7, y8, y9, y10] ∧ pl ≤ n ∧ m = n - pl ∧ FormI H H' fa la fs ls (runM p (invM p) M pl).1 (runM p (invM p) M pl).2)
      _ ⟨fa, la, [], ls, 0, none, none, none, none, none, none, rfl, Nat.zero_le _, rfl, start⟩ fun mm σ H' hW => ?_
    obtain ⟨fa, la, fs, ls, pl, y2, y6, y7, y8, y9, y10, rfl, hpl, rfl, inv⟩ := hW
    obtain ⟨lsR, R⟩ := run_all two hv hM pl hpl
    have lens := runM_len (p := p) (inv := invM p) (rows := M) pl
    have est : runM p (invM p) M (pl + 1) = stepM p (invM p) pl (runM p (invM p) M pl) := rfl
    have stop := fun h d => runM_stop (p := p) (inv := invM p) (rows := M) (k := pl) h d
    have lowe := lowM_len (p := p) (n := n) (inv := invM p) M hM
    have wfL := R.wf
    have tl2 := inv.tl
    generalize hS : runM p (invM p) M pl = S at *
    obtain ⟨Fm, L⟩ := S
    dsimp only at *
    have lenL : (rf ls).length = L.length := by rw [List.length_map, tl2.len]
    have lenl := tl2.len
    refine ⟨la, ls, L, pl, n, rfl, rfl, tl2, fun m hm => (wfL m hm).len, ite2 (fun c => ?_) (fun c => ?_)⟩
    · have c' := of_decide_eq_true c
      refine ⟨_, fun σ' H' h => h, ?_⟩
      -- some
      refine ⟨_, rfl, la, _, rfl, .inl (SqL.of tl2.at_), _, rfl, by omega, by rw [lenL]; omega, fun D hD => ?_⟩
      refine lc_range (lo := 0) (n := _) (fun i H1 => Same H' H1 ∧ H1 D = some (.lst ((nzs pl L i).map fun (k : Nat) => V.int (k : Int)))) ⟨same_new hD, upd_same⟩ (fun i H1 hi hW => ?_) (fun H1 hW => ?_)
      · obtain ⟨sm, e⟩ := hW
        rw [Int.toNat_natCast, lenL] at hi
        obtain ⟨m, hm⟩ := get_of (l := L) (i := i) hi
        obtain ⟨r, hrr⟩ := get_of (l := ls) (i := i) (by omega)
        have tl1 := tl2.same sm
        have hrow := tl1.row i r m hrr hm
        have iz : (0 : Int) + (i : Int) = (i : Int) := Int.zero_add _
        rw [iz]
        refine ⟨rfl, ?_⟩
        refine ⟨_, rfl, _, rfl, la, _, _, _, rfl, rfl, SqL.of tl1.at_, atI_nat (rf_get hrr), _, rfl, r, _, _, _, rfl, rfl, IL.sq hrow, atI_nat (iv_ent (by rw [(wfL m (List.mem_of_getElem? hm)).len]; omega)), rfl, _, rfl, ?_⟩
        have gm : L.getD i [] = m := getD_of hm
        have ns := nzs_succ (pl := pl) (i := i) (L := L)
        rw [gm] at ns
        rw [← decide_not]
        refine ite2 (fun c => ?_) (fun c => ?_)
        · have c1 : ent m pl ≠ 0 := fun z => of_decide_eq_true c (congrArg V.int z)
          rw [if_pos c1] at ns
          refine ⟨_, rfl, _, e, by rw [List.length_map]; exact small1000 (by have := nzs_len (pl := pl) (i := i) (L := L); omega), same_upd hD sm, ?_⟩
          rw [upd_same, ns, List.map_append]
          rfl
        · have c1 : ¬ ent m pl ≠ 0 := fun z => c (decide_eq_true fun e => z (V.int.inj e))
          rw [if_neg c1, List.append_nil] at ns
          exact ⟨sm, by rw [ns]; exact e⟩
      · obtain ⟨sm, e⟩ := hW
        rw [Int.toNat_natCast, lenL] at e
        refine ⟨fun σ' H2 => ∃ fa la fs ls y2 y6 y7 y8 y9 y10, σ' = [some (.int p), some (.ref a), y2, some (.ref la), some (.ref fa), some (.int (pl : Int)), y6, y7, y8, y9, y10] ∧ FormI H H2 fa la fs ls (runM p (invM p) M (pl + 1)).1 (runM p (invM p) M (pl + 1)).2, ?_, fun σ' H2 hW => ?_⟩
        · refine ⟨_, rfl, D, _, rfl, .inl (SqL.of e), _, _, rfl, rfl, _, rfl, ?_⟩
          rw [List.length_map]
          cases hnz : nzs pl L L.length with
          | nil =>
            refine ite2 (fun c2 => ?_) (fun c2 => ?_)
            · have := of_decide_eq_true c2
              simp at this
            · have est2 : runM p (invM p) M (pl + 1) = (Fm, L) := by
                rw [est]
                unfold stepM
                dsimp only
                rw [pick_nil hnz]
              rw [est2]
              exact ⟨fa, la, fs, ls, _, _, _, _, _, _, rfl, inv.same.trans sm, inv.tf.same sm, inv.tl.same sm, inv.nf, inv.nl, inv.ne, inv.fresh⟩
          | cons j t =>
            obtain ⟨hjl, hne, hpick⟩ := pick_cons hnz
            rw [hnz] at e
            refine ite2 (fun c2 => ?_) (fun c2 => absurd (decide_eq_true (by rw [List.length_cons]; omega)) c2)
            obtain ⟨m0, hm0⟩ := get_of hjl
            obtain ⟨r0, hr0⟩ := get_of (l := ls) (i := j) (by omega)
            have gm : L.getD j [] = m0 := getD_of hm0
            rw [gm] at hne
            have tl1 := tl2.same sm
            have hrow := tl1.row j r0 m0 hr0 hm0
            have wm0 := wfL m0 (List.mem_of_getElem? hm0)
            have est2 : runM p (invM p) M (pl + 1) = (clearM p pl (mulR p (invM p (ent m0 pl)) m0) Fm ++ [mulR p (invM p (ent m0 pl)) m0], clearM p pl (mulR p (invM p (ent m0 pl)) m0) (L.eraseIdx j)) := by
              rw [est]
              unfold stepM
              dsimp only
              rw [hpick]
              dsimp only
              rw [gm]
            rw [est2]
            dsimp only
            refine ⟨_, rfl, .inl ⟨rfl, _, SqL.of tl1.at_⟩, _, rfl, D, _, _, _, rfl, rfl, SqL.of e, atI_nat (j := 0) rfl, la, _, (j : Int), j, _, rfl, rfl, tl1.at_, by omega, by omega, seqIx (by rw [lenL]; exact hjl), rf_get hr0, ?_⟩
            have er := tl1.erase (j := j) (by omega)
            have hr0m : r0 ∈ ls := List.mem_of_getElem? hr0
            have cls : ∃ x xs, ls = x :: xs := by
              cases ls with
              | nil => simp at hr0m
              | cons x xs => exact ⟨x, xs, rfl⟩
            have neR : ∀ (r : Addr) (m : List Int), IL H1 r m → r ≠ la := fun r m h => by
              obtain ⟨x, xs, rfl⟩ := cls
              exact rf_ne tl1.at_ h
            have tf0 := inv.tf.same sm
            have sH1 : Same H (L2.upd H1 la (.lst ((rf ls).eraseIdx j))) := same_upd inv.nl (inv.same.trans sm)
            have tf1 : Tab (L2.upd H1 la (.lst ((rf ls).eraseIdx j))) fa fs Fm := tf0.upd inv.ne fun r hr => by
              obtain ⟨m, _, hm⟩ := IL.ref tf0 hr
              exact neR r m hm
            have row1 : IL (L2.upd H1 la (.lst ((rf ls).eraseIdx j))) r0 m0 := by
              show (L2.upd H1 la _) r0 = _
              rw [upd_ne (neR r0 m0 hrow)]
              exact hrow
            generalize L2.upd H1 la (.lst ((rf ls).eraseIdx j)) = H3 at *
            have em := wm0.ent (show pl < n by omega)
            obtain ⟨v1, v2, _⟩ := inv_ok hp (show 0 < ent m0 pl by omega) em.2
            -- back
            refine ⟨_, rfl, _, rfl, _, rfl, r0, _, _, _, rfl, rfl, IL.sq row1, atI_nat (iv_ent (by rw [wm0.len]; omega)), ⟨p, ent m0 pl, rfl, hp, by omega, em.2, fun H4 s4 => ?_⟩⟩
            have wrow : Wf p n (mulR p (invM p (ent m0 pl)) m0) := mulR_wf (by omega) wm0
            have row4 := s4 _ _ row1
            -- row
            refine ⟨_, rfl, r0, rfl, ⟨_, IL.sq row4⟩, fun D2 hD2 => lc_it (walk_list (K := K) (a := r0) (xs := iv m0)) (fun i H' => Mk H4 D2 (mulR p (invM p (ent m0 pl)) m0) i H') (Mk.start hD2) (fun i H' _ mk => (mk.same.seq (IL.sq row4))) (fun i x H5 H6 hi mk y => ?_) (fun H5 mk => ?_)⟩
            · obtain ⟨rfl, hx⟩ := y
              obtain ⟨z, hz, rfl⟩ := iv_inv hx
              refine ⟨rfl, ?_⟩
              refine t_yes ?_
              refine ⟨_, rfl, _, rfl, _, _, rfl, rfl, .inl ⟨by omega, by omega⟩, _, rfl, _, _, rfl, rfl, (by show 0 < p; omega), ?_⟩
              exact mk.step hD2 (Same.refl _) (by unfold mulR; rw [List.getElem?_map, hz]; rfl) (by rw [wrow.len]; omega)
            have i5 := mk.done (by unfold mulR; rw [List.length_map, List.length_map])
            have s35 := s4.trans mk.same
            generalize hrowe : mulR p (invM p (ent m0 pl)) m0 = row at *
            have lenE : (L.eraseIdx j).length ≤ L.length := List.length_eraseIdx_le _ _
            have te := er.same s35
            have tf5 := tf1.same s35
            have wE : Wfs p n (L.eraseIdx j) := fun m hm => wfL m (List.mem_of_mem_eraseIdx hm)
            have wF : Wfs p n Fm := R.low.wf
            -- left
            refine ⟨_, rfl, la, rfl, ⟨_, SqL.of te.at_⟩, fun la2 nla2 => ?_⟩
            refine lc_it (walk_list (K := K) (a := la) (xs := rf (ls.eraseIdx j))) (fun i H' => ∃ qs, Mt H5 la2 [] (clearM p pl row (L.eraseIdx j)) i H' qs) ⟨[], Mt.start nla2⟩ (fun i H' _ ⟨qs, m⟩ => (m.same.seq (SqL.of te.at_))) (fun i x H6 H7 hi ⟨qs, m⟩ y => ?_) (fun H6 ⟨ls2, m6⟩ => ?_)
            · obtain ⟨rfl, hx⟩ := y
              obtain ⟨r, hrr, rfl⟩ := rf_inv hx
              obtain ⟨mm, hm⟩ := get_of (l := L.eraseIdx j) (i := i) (by have := get_lt hrr; have := te.len; omega)
              have hrow := m.same _ _ (te.row i r mm hrr hm)
              have wmm := wE mm (List.mem_of_getElem? hm)
              have ee := wmm.ent (show pl < n by omega)
              refine ⟨rfl, ?_⟩
              refine t_yes ?_
              refine ⟨_, rfl, _, rfl, _, rfl, _, rfl, r, _, _, _, rfl, rfl, IL.sq hrow, atI_nat (iv_ent (by rw [wmm.len]; omega)), _, rfl, ⟨p, ent mm pl, n, r, D2, mm, row, rfl, by omega, by omega, by omega, ee.1, by omega, hrow, wmm, m.same _ _ i5, wrow, fun H8 q8 s8 n8 i8 => ?_⟩⟩
              obtain ⟨acc, e1, e2, e3⟩ := m.step nla2 (fun r hr => by simp at hr) s8 (clearM_get hm) i8 (.inr n8) (by rw [clearM_len]; omega)
              exact ⟨acc, e1, e2, _, e3⟩
            have tl6 := m6.tab (by rw [List.length_map, clearM_len]; exact te.len)
            have i6 := m6.same _ _ i5
            have tf6 := tf5.same m6.same
            -- found
            refine ⟨_, rfl, fa, rfl, ⟨_, SqL.of tf6.at_⟩, fun f2 nf2 => ?_⟩
            refine lc_it (walk_list (K := K) (a := fa) (xs := rf fs)) (fun i H' => ∃ qs, Mt H6 f2 [] (clearM p pl row Fm) i H' qs) ⟨[], Mt.start nf2⟩ (fun i H' _ ⟨qs, m⟩ => (m.same.seq (SqL.of tf6.at_))) (fun i x H7 H8 hi ⟨qs, m⟩ y => ?_) (fun H7 ⟨fs2, m7⟩ => ?_)
            · obtain ⟨rfl, hx⟩ := y
              obtain ⟨r, hrr, rfl⟩ := rf_inv hx
              obtain ⟨mm, hm⟩ := get_of (l := Fm) (i := i) (by have := get_lt hrr; have := tf6.len; omega)
              have hrow := m.same _ _ (tf6.row i r mm hrr hm)
              have wmm := wF mm (List.mem_of_getElem? hm)
              have ee := wmm.ent (show pl < n by omega)
              refine ⟨rfl, ?_⟩
              refine t_yes ?_
              refine ⟨_, rfl, _, rfl, _, rfl, _, rfl, r, _, _, _, rfl, rfl, IL.sq hrow, atI_nat (iv_ent (by rw [wmm.len]; omega)), _, rfl, ⟨p, ent mm pl, n, r, D2, mm, row, rfl, by omega, by omega, by omega, ee.1, by omega, hrow, wmm, m.same _ _ i6, wrow, fun H9 q9 s9 n9 i9 => ?_⟩⟩
              obtain ⟨acc, e1, e2, e3⟩ := m.step nf2 (fun r hr => by simp at hr) s9 (clearM_get hm) i9 (.inr n9) (by rw [clearM_len]; omega)
              exact ⟨acc, e1, e2, _, e3⟩
            have tf7 := m7.tab (by rw [List.length_map, clearM_len]; exact tf6.len)
            have i7 := m7.same _ _ i6
            have tl7 := tl6.same m7.same
            refine ⟨_, rfl, (by show 1 ≤ sizeLine; decide), fun l1 nl1 => ?_⟩
            have s8 : Same H7 (L2.upd H7 l1 (.lst [.ref D2])) := same_new nl1
            have tf8 := tf7.same s8
            have tl8 := tl7.same s8
            have i8 := s8 _ _ i7
            have lf : fs2.length = Fm.length := by rw [tf7.len, clearM_len]
            refine ⟨f2, l1, _, _, rfl, rfl, tf8.at_, upd_same, by rw [List.length_map, lf]; exact Nat.le_of_lt (small1000 (by simp; omega)), fun f3 nf3 => ?_⟩
            generalize L2.upd H7 l1 (.lst [.ref D2]) = H8 at *
            have sAll : Same H H8 := ((sH1.trans s35).trans m6.same).trans (m7.same.trans s8)
            refine ⟨f3, la2, fs2 ++ [D2], ls2, _, _, _, _, _, _, rfl, same_upd (same_none sAll nf3) sAll, ⟨?_, ?_, fun t r m hr hm => ?_⟩, tl8.same (same_new nf3), same_none sAll nf3, same_none (sH1.trans s35) nla2, fun e => ?_, fun r hr => ?_⟩
            · rw [upd_same]
              simp
            · rw [List.length_append, List.length_append, lf, clearM_len]
              rfl
            · have s9 : Same H8 (L2.upd H8 f3 (.lst (rf fs2 ++ [.ref D2]))) := same_new nf3
              by_cases ht : t < fs2.length
              · rw [List.getElem?_append_left ht] at hr
                rw [List.getElem?_append_left (by rw [clearM_len]; omega)] at hm
                exact s9 _ _ (tf8.row t r m hr hm)
              · have ht2 := get_lt hr
                rw [List.length_append, List.length_singleton] at ht2
                have et : t = fs2.length := by omega
                rw [List.getElem?_append_right (by omega), et, Nat.sub_self] at hr
                rw [List.getElem?_append_right (by rw [clearM_len]; omega), et, lf, clearM_len, Nat.sub_self] at hm
                cases Option.some.inj hr
                cases Option.some.inj hm
                exact s9 _ _ i8
            · rw [e, tl8.at_] at nf3
              cases nf3
            · rcases List.mem_append.mp hr with h | h
              · obtain ⟨t, ht⟩ := List.getElem?_of_mem h
                rcases m7.src t r ht with h2 | h2
                · simp at h2
                · exact same_none ((sH1.trans s35).trans m6.same) h2
              · rw [List.mem_singleton.mp h]
                exact same_none (sH1.trans s4) hD2
        · obtain ⟨fa, la, fs, ls, y2, y6, y7, y8, y9, y10, rfl, inv2⟩ := hW
          exact ⟨_, rfl, _, _, rfl, rfl, n - (pl + 1), by omega, fa, la, fs, ls, pl + 1, y2, y6, y7, y8, y9, y10, rfl, by omega, rfl, inv2⟩
    · have c' : ¬ (0 < L.length ∧ pl < n) := of_decide_eq_false (Bool.eq_false_iff.mpr c)
      have fin : lowM p (invM p) M = Fm := by
        rw [lowe]
        by_cases h0 : pl < n
        · have hL : L = [] := by
            cases L with
            | nil => rfl
            | cons x xs => exact absurd ⟨by rw [List.length_cons]; omega, h0⟩ c'
          have z := stop hL (n - pl)
          rw [show pl + (n - pl) = n by omega] at z
          rw [z]
        · have : pl = n := by omega
          rw [← this, hS]
      refine ⟨_, rfl, q H' fa fs inv.same inv.nf ?_ inv.fresh⟩
      rw [fin]
      exact inv.tf
end

/-! ### _law_whole -/
section
variable {P : Program} {w : World} {K : PySem.W.Frag} {mg : Str → Option Value} {base : Heap}
abbrev sWhole : Stmt := topS 19
theorem scWhole : FnScope ["_law_thing", "_law_end"] ["_law_thing", "_law_end"] (defScope sWhole) := ⟨rfl, rfl, rfl, by decide +kernel, rfl, by decide +kernel, by decide +kernel⟩
def spWhD : Sp := fun vs H Q _ => ∃ (v : V) (d : PyData) (e : Int), vs = [v, .int e] ∧ Dh H v d ∧ Q (.bl (restB e d)) H
theorem ok_whd {f : Addr} {fd : FuncData} {k : Nat} (F : Fun K "_law_whole" "_law_whole" sWhole f fd) (mi : mg "isinstance" = none) (mn : mg "int" = none) (mb : mg "bool" = none) : FnOk P w K mg base CX0 (k + 1) f fd ["_law_thing", "_law_end"] spWhD := by
  refine F.ok scWhole (fun vs H Q E h => ?_) (fun cdv A outer s H vs Q E hr h => ?_)
  · obtain ⟨v, d, e, rfl, _⟩ := h
    rfl
  · obtain ⟨v, d, e, rfl, dh, q⟩ := h
    refine ⟨_, pss_one (ps_ret (pe_and (pe_callB call_isi (by rfl) mi (by decide +kernel) (pa_cons (pv 0) (pa_cons (pe_bltn (v := .ty "int") (by rfl) mn (by decide +kernel) rfl) pa_nil)))
      (pe_and (pe_not (pe_callB call_isi (by rfl) mi (by decide +kernel) (pa_cons (pv 0) (pa_cons (pe_bltn (v := .ty "bool") (by rfl) mb (by decide +kernel) rfl) pa_nil))))
        (pe_one (pe_chain op_le op_lt pe_int (pv 0) (pv 1)))))), ?_⟩
    refine ⟨_, rfl, _, _, _, _, isID d, rfl, .ty "int", dh.ty, kitI d, isID d, rfl, ?_⟩
    cases dh with
    | int x =>
      refine iteT ?_
      refine ⟨_, rfl, _, _, _, _, false, rfl, .ty "bool", .base (.int x), kit_ty (by decide +kernel), false, rfl, true, rfl, iteT ?_⟩
      refine ⟨_, rfl, _, _, rfl, rfl, decide (0 ≤ x), rfl, ?_⟩
      by_cases c : 0 ≤ x
      · rw [decide_eq_true c]
        refine iteT ?_
        refine ⟨_, rfl, _, _, rfl, rfl, ?_⟩
        have e2 : restB e (.int x) = decide (x < e) := decide_eq_decide.mpr ⟨fun z => z.2, fun z => ⟨c, z⟩⟩
        rw [e2] at q
        exact q
      · rw [decide_eq_false c]
        refine iteF ?_
        have e2 : restB e (.int x) = false := decide_eq_false fun z => c z.1
        rw [e2] at q
        exact q
    | bl b =>
      refine iteT ?_
      refine ⟨_, rfl, _, _, _, _, true, rfl, .ty "bool", .base (.bl b), kit_ty (by decide +kernel), true, rfl, false, rfl, iteF q⟩
    | non => exact iteF q
    | str x => exact iteF q
    | lst _ _ => exact iteF q
    | tup _ _ => exact iteF q
end

/-! ### _law_rows_like -/
section
variable {P : Program} {w : World} {K : PySem.W.Frag} {mg : Str → Option Value} {base : Heap}
abbrev sLike : Stmt := topS 20
abbrev nLike : List Str := ["_law_p", "_law_length", "_law_thing", "_law_row", "_law_number"]
theorem scLike : FnScope nLike ["_law_p", "_law_length", "_law_thing"] (defScope sLike) := ⟨rfl, rfl, rfl, by decide +kernel, rfl, by decide +kernel, by decide +kernel⟩
/-- a row of n rests -/
def rowB (p : Int) (n : Nat) : PyData → Bool
  | .list es => decide (es.length = n) && es.all (restB p)
  | _ => false
def rowsB (p : Int) (n : Nat) : PyData → Bool
  | .list ds => ds.all (rowB p n)
  | _ => false
def spLkD : Sp := fun vs H Q _ => ∃ (p : Int) (n : Nat) (v : V) (d : PyData), vs = [.int p, .int (n : Int), v] ∧ Dh H v d ∧ n ≤ 1000 ∧ ∀ H', Same H H' → Q (.bl (rowsB p n d)) H'
theorem ok_lkd {f fW : Addr} {fd fdW : FuncData} {k : Nat} (F : Fun K "_law_rows_like" "_law_rows_like" sLike f fd)
    (GW : FnOk P w K mg base CX0 (k + 1) fW fdW ["_law_thing", "_law_end"] spWhD) (bW : Binds K fdW ["_law_thing", "_law_end"] []) (kW : PySem.W.keepIn K (.ref fW) = true) (mW : mg "_law_whole" = some (.ref fW))
    (mi : mg "isinstance" = none) (mt : mg "list" = none) (ml : mg "len" = none) (ma : mg "all" = none) : FnOk P w K mg base CX0 (k + 2) f fd ["_law_p", "_law_length", "_law_thing"] spLkD := by
  refine F.ok scLike (fun vs H Q E h => ?_) (fun cdv A outer s H vs Q E hr h => ?_)
  · obtain ⟨p, n, v, d, rfl, _⟩ := h
    rfl
  · obtain ⟨p, n, v, d, rfl, dh, hn, q⟩ := h
    refine ⟨_, pss_cons (ps_if (pt_not (pt_val (pe_callB call_isi (by rfl) mi (by decide +kernel) (pa_cons (pv 2) (pa_cons (pe_bltn (v := .ty "list") (by rfl) mt (by decide +kernel) rfl) pa_nil))))) (pss_one (ps_ret pe_bl)) pss_nil)
      (pss_cons (ps_for PassesOwn.never rfl (pi_list (pv 2)) (pg_name (i := 3) scLike.nd rfl (Or.inl rfl))
        (pss_cons (ps_if (PW.pt (pw_or (pt_not (pt_val (pe_callB call_isi (by rfl) mi (by decide +kernel) (pa_cons (pv 3) (pa_cons (pe_bltn (v := .ty "list") (by rfl) mt (by decide +kernel) rfl) pa_nil))))) (pw_or1 (pt_cmpR op_ne (pe_callB call_len_seq (by rfl) ml PySem.boot_len (pa_cons (pv 3) pa_nil)) (pv 1) (nomark _))))) (pss_one (ps_ret pe_bl)) pss_nil)
        (pss_one (ps_if (pt_not (pt_val (pe_callB (cr_all rfl) (by rfl) ma (by decide +kernel) (pa_cons (pe_lc (own := [("_law_number", 4)]) (g := gName 4) (tt := tYes) (by rfl) scLike.nd (pi_list (pv 3)) (blkOk_by (own := [("_law_number", 4)]) (N := nLike) (sc := defScope sLike) (by decide +kernel))
          (fun _ _ _ _ _ => pg_name (i := 4) scLike.nd rfl (Or.inl rfl)) (fun _ _ _ _ _ => pts_nil) (fun _ _ _ _ _ => pe_call GW hr (by rfl) mW kW bW .nil pass0 (pa_cons (pv 4) (pa_cons (pv 0) pa_nil)))) pa_nil)))) (pss_one (ps_ret pe_bl)) pss_nil))))
      (pss_one (ps_ret pe_bl))), ?_⟩
    refine ⟨_, rfl, _, _, _, _, isLD d, rfl, .ty "list", dh.ty, kitL d, isLD d, rfl, ?_⟩
    cases dh with
    | non => exact iteT (q H (Same.refl H))
    | bl b => exact iteT (q H (Same.refl H))
    | int i => exact iteT (q H (Same.refl H))
    | str x => exact iteT (q H (Same.refl H))
    | tup _ _ => exact iteT (q H (Same.refl H))
    | lst h1 h2 =>
      rename_i a xs ds
      refine iteF ?_
      refine ⟨_, rfl, a, rfl, ⟨_, SqL.of h1⟩, for_list (K := K) (a := a) (xs := xs) (fun i σ H' => ∃ y3 y4, σ = [some (.int p), some (.int (n : Int)), some (.ref a), y3, y4] ∧ Same H H' ∧ (ds.take i).all (rowB p n) = true) ⟨none, none, rfl, Same.refl H, rfl⟩ (fun i σ H' _ hW => ?_) (fun i x σ H' hx hW => ?_) (fun σ H' hW => ?_)⟩
      · obtain ⟨_, _, _, sm, _⟩ := hW
        exact sm.seq (SqL.of h1)
      · obtain ⟨y3, y4, rfl, sm, hA⟩ := hW
        obtain ⟨e, he⟩ := get_of (l := ds) (i := i) (by have := get_lt hx; have := h2.len; omega)
        have de := Dh.same sm e x (h2.get hx he)
        have qF : ∀ {H2}, rowB p n e = false → Same H H2 → Q (.bl false) H2 := fun {H2} z s => by
          have := q H2 s
          rw [show rowsB p n (.list ds) = false from List.all_eq_false.mpr ⟨e, List.mem_of_getElem? he, by rw [z]; decide⟩] at this
          exact this
        refine ⟨_, rfl, _, _, _, _, isLD e, rfl, .ty "list", de.ty, kitL e, isLD e, rfl, ?_⟩
        cases de with
        | non => exact iteT (iteT (qF rfl sm))
        | bl b => exact iteT (iteT (qF rfl sm))
        | int i => exact iteT (iteT (qF rfl sm))
        | str x => exact iteT (iteT (qF rfl sm))
        | tup _ _ => exact iteT (iteT (qF rfl sm))
        | lst g1 g2 =>
          rename_i r us es
          refine iteF ?_
          refine ⟨_, rfl, r, _, rfl, .inl (SqL.of g1), _, rfl, rfl, _, rfl, ?_⟩
          rw [g2.len, ← decide_not]
          refine ite2 (fun c => ?_) (fun c => ?_)
          · have c1 : es.length ≠ n := fun z => of_decide_eq_true c (by rw [z])
            refine qF ?_ sm
            show (decide (es.length = n) && _) = false
            rw [decide_eq_false c1]
            rfl
          have c1 : es.length = n := Classical.byContradiction fun z => c (decide_eq_true fun w => z (by have := V.int.inj w; omega))
          have eB : rowB p n (.list es) = es.all (restB p) := by
            show (decide (es.length = n) && _) = _
            rw [decide_eq_true c1, Bool.true_and]
          refine ⟨_, rfl, r, rfl, ⟨_, SqL.of g1⟩, fun D hD => lc_it (walk_list (K := K) (a := r) (xs := us)) (fun j H1 => Same H' H1 ∧ H1 D = some (.lst (((es.take j).map (restB p)).map V.bl))) ⟨same_new hD, upd_same⟩ (fun j H1 _ h => h.1.seq (SqL.of g1)) (fun j x H1 H2 hi hW y => ?_) (fun H1 hW => ?_)⟩
          · obtain ⟨rfl, hx⟩ := y
            obtain ⟨sm1, e1⟩ := hW
            obtain ⟨z, hz⟩ := get_of (l := es) (i := j) (by have := get_lt hx; have := g2.len; omega)
            have dz := Dh.same sm1 z x (g2.get hx hz)
            refine ⟨rfl, t_yes ?_⟩
            refine ⟨_, rfl, _, rfl, ⟨x, z, p, rfl, dz, ?_⟩⟩
            refine ⟨_, e1, ?_, same_upd hD sm1, ?_⟩
            · rw [List.length_map, List.length_map, List.length_take, sizeLine_eq]
              omega
            · rw [upd_same, List.take_add_one, hz]
              simp
          · obtain ⟨sm1, e1⟩ := hW
            rw [g2.len, List.take_length] at e1
            refine ⟨D, es.map (restB p), rfl, SqL.of e1, es.all (restB p), ?_, ?_⟩
            · rw [List.all_map]
              rfl
            cases hA2 : es.all (restB p) with
            | false => exact iteT (qF (by rw [eB, hA2]) (sm.trans sm1))
            | true =>
              refine iteF ?_
              refine ⟨_, _, rfl, sm.trans sm1, ?_⟩
              rw [all_take_succ he, hA, eB, hA2]
              rfl
      · obtain ⟨y3, y4, rfl, sm, hA⟩ := hW
        rw [h2.len, List.take_length] at hA
        have := q H' sm
        rw [show rowsB p n (.list ds) = true from hA] at this
        exact this
end

/-! ### _law_due -/
section
variable {P : Program} {w : World} {K : PySem.W.Frag} {mg : Str → Option Value} {base : Heap}
abbrev sDue : Stmt := topS 21
theorem scDue : FnScope ["_law_p", "_law_thing"] ["_law_p", "_law_thing"] (defScope sDue) := ⟨rfl, rfl, rfl, by decide +kernel, rfl, by decide +kernel, by decide +kernel⟩
theorem eqvAll_rows : ∀ A B : List Row, PyData.eqvAll (A.map dRow) (B.map dRow) = decide (A = B)
  | [], [] => rfl
  | [], b :: B => by simp [PyData.eqvAll]
  | a :: A, [] => by simp [PyData.eqvAll]
  | a :: A, b :: B => by
    show PyData.eqvAll (dRow a :: A.map dRow) (dRow b :: B.map dRow) = _
    rw [PyData.eqvAll, dRow_eqv, eqvAll_rows A B]
    by_cases h : a = b
    · by_cases h2 : A = B
      · rw [decide_eq_true h, decide_eq_true h2, decide_eq_true (by rw [h, h2])]
        rfl
      · rw [decide_eq_false h2, decide_eq_false (show ¬ (a :: A = b :: B) from fun z => h2 (List.cons.inj z).2), Bool.and_false]
    · rw [decide_eq_false h, decide_eq_false (show ¬ (a :: A = b :: B) from fun z => h (List.cons.inj z).1), Bool.false_and]
theorem dTab_eqv (A B : List Row) : PyData.eqv (dTab A) (dTab B) = decide (A = B) := by
  show PyData.eqv (.list _) (.list _) = _
  rw [PyData.eqv]
  exact eqvAll_rows A B
def spDuL : Sp := fun vs H Q _ => ∃ (p : Int) (v : V) (d : PyData), vs = [.int p, v] ∧ P5 p ∧ Dh H v d ∧ (∀ ds, d = .list ds → ds.length ≤ 200) ∧ ∀ H', Same H H' → Q (.bl (lowB p d)) H'
/-- rows all alike -/
theorem rowsB_tab {p : Int} {n : Nat} : ∀ {ds : List PyData}, ds.all (rowB p n) = true → ∃ M : List Row, ds = M.map dRow ∧ Wfs p n M
  | [], _ => ⟨[], rfl, fun m hm => by simp at hm⟩
  | d :: ds, h => by
    rw [List.all_cons, Bool.and_eq_true] at h
    obtain ⟨M, rfl, hM⟩ := rowsB_tab h.2
    cases d with
    | list es =>
      have h1 : (decide (es.length = n) && es.all (restB p)) = true := h.1
      rw [Bool.and_eq_true] at h1
      obtain ⟨m, rfl, rng⟩ := rests_row h1.2
      have hl := of_decide_eq_true h1.1
      rw [List.length_map] at hl
      refine ⟨m :: M, rfl, fun x hx => ?_⟩
      rcases List.mem_cons.mp hx with e | hx
      · rw [e]; exact ⟨hl, rng⟩
      · exact hM x hx
    | none => cases h.1
    | bool _ => cases h.1
    | int _ => cases h.1
    | str _ => cases h.1
    | tuple _ => cases h.1
    | dict _ => cases h.1
theorem rowB_wf {p : Int} {n : Nat} {m : Row} (h : Wf p n m) : rowB p n (dRow m) = true := by
  show (decide ((m.map PyData.int).length = n) && _) = true
  rw [List.length_map, decide_eq_true h.len, Bool.true_and]
  exact all_rows h.rng
theorem ok_duL {f fL fF : Addr} {fd fdL fdF : FuncData} {k : Nat} (F : Fun K "_law_due" "_law_due" sDue f fd)
    (GL : FnOk P w K mg base CX0 (k + 2) fL fdL ["_law_p", "_law_length", "_law_thing"] spLkD) (bL : Binds K fdL ["_law_p", "_law_length", "_law_thing"] []) (kL : PySem.W.keepIn K (.ref fL) = true) (mL : mg "_law_rows_like" = some (.ref fL))
    (GF : FnOk P w K mg base CX0 (k + 2) fF fdF ["_law_p", "_law_rows_here"] spForm) (bF : Binds K fdF ["_law_p", "_law_rows_here"] []) (kF : PySem.W.keepIn K (.ref fF) = true) (mF : mg "_law_form" = some (.ref fF))
    (mi : mg "isinstance" = none) (mt : mg "list" = none) (ml : mg "len" = none) : FnOk P w K mg base CX0 (k + 3) f fd ["_law_p", "_law_thing"] spDuL := by
  refine F.ok scDue (fun vs H Q E h => ?_) (fun cdv A outer s H vs Q E hr h => ?_)
  · obtain ⟨p, v, d, rfl, _⟩ := h
    rfl
  · obtain ⟨p, v, d, rfl, hp, dh, few, q⟩ := h
    refine ⟨_, pss_cons (ps_if (pt_not (pt_val (pe_callB call_isi (by rfl) mi (by decide +kernel) (pa_cons (pv 1) (pa_cons (pe_bltn (v := .ty "list") (by rfl) mt (by decide +kernel) rfl) pa_nil))))) (pss_one (ps_ret pe_bl)) pss_nil)
      (pss_cons (ps_if (pt_cmpR op_eq (pe_callB call_len_seq (by rfl) ml PySem.boot_len (pa_cons (pv 1) pa_nil)) pe_int (nomark _)) (pss_one (ps_ret pe_bl)) pss_nil)
      (pss_cons (ps_if (PW.pt (pw_or (pt_not (pt_val (pe_callB call_isi (by rfl) mi (by decide +kernel) (pa_cons (pe_ix ix_list (pv 1) pe_int (fun _ _ => rfl)) (pa_cons (pe_bltn (v := .ty "list") (by rfl) mt (by decide +kernel) rfl) pa_nil)))))
          (pw_or1 (pt_not (pt_chain op_le op_le pe_int (pe_callB call_len_seq (by rfl) ml PySem.boot_len (pa_cons (pe_ix ix_list (pv 1) pe_int (fun _ _ => rfl)) pa_nil)) pe_int))))) (pss_one (ps_ret pe_bl)) pss_nil)
      (pss_one (ps_ret (pe_and (pe_call GL hr (by rfl) mL kL bL .nil pass0 (pa_cons (pv 0) (pa_cons (pe_callB call_len_seq (by rfl) ml PySem.boot_len (pa_cons (pe_ix ix_list (pv 1) pe_int (fun _ _ => rfl)) pa_nil)) (pa_cons (pv 1) pa_nil))))
        (pe_one (pe_cmpR (op_eqD hr.units) (pe_call GF hr (by rfl) mF kF bF .nil pass0 (pa_cons (pv 0) (pa_cons (pv 1) pa_nil))) (pv 1) (nomark _)))))))), ?_⟩
    have two := hp.two
    have qN : ∀ {d : PyData}, (∀ M, d ≠ dTab M) → (∀ H', Same H H' → Q (.bl (lowB p d)) H') → Q (.bl false) H := fun {d} z q => by
      have := q H (Same.refl H)
      rw [lowB_false (fun ⟨n, M, ls, e, _⟩ => z M e)] at this
      exact this
    refine ⟨_, rfl, _, _, _, _, isLD d, rfl, .ty "list", dh.ty, kitL d, isLD d, rfl, ?_⟩
    cases dh with
    | non => exact iteT (qN (fun M z => by cases z) q)
    | bl b => exact iteT (qN (fun M z => by cases z) q)
    | int i => exact iteT (qN (fun M z => by cases z) q)
    | str x => exact iteT (qN (fun M z => by cases z) q)
    | tup _ _ => exact iteT (qN (fun M z => by cases z) q)
    | lst h1 h2 =>
      rename_i a xs ds
      refine iteF ?_
      have qF : ∀ {H'}, ¬ LowD p (.list ds) → Same H H' → Q (.bl false) H' := fun {H'} z s => by
        have := q H' s
        rw [lowB_false z] at this
        exact this
      refine ⟨_, rfl, a, _, rfl, .inl (SqL.of h1), rfl, _, rfl, ?_⟩
      cases ds with
      | nil =>
        have : xs = [] := List.eq_nil_of_length_eq_zero h2.len
        subst this
        refine iteT ?_
        have := q H (Same.refl H)
        rw [show lowB p (.list []) = true from lowB_iff ⟨fun _ => rfl, fun _ => ⟨0, [], [], rfl, by decide, nil_low⟩⟩] at this
        exact this
      | cons d0 ds =>
        cases h2 with
        | cons g1 g2 =>
          rename_i v0 xs
          refine iteF ?_
          have at0 : LowD p (.list (d0 :: ds)) → n0 (d0 :: ds) ≤ 36 ∧ ∃ M ls, d0 :: ds = M.map dRow ∧ Low p (n0 (d0 :: ds)) M ls ∧ ∃ m l, d0 = dRow m ∧ Wf p (n0 (d0 :: ds)) m ∧ l < n0 (d0 :: ds) := fun z => by
            obtain ⟨a1, M, ls, a2, a3, m, l, _, _, a4, a5, a6, _⟩ := lowD_at (i := 0) (e := d0) z rfl
            exact ⟨a1, M, ls, a2, a3, m, l, a4, a5, a6⟩
          have hx0 : (v0 :: xs)[0]? = some v0 := rfl
          refine ⟨_, rfl, a, _, _, _, rfl, rfl, SqL.of h1, atI_nat (j := 0) hx0, _, _, _, _, isLD d0, rfl, .ty "list", g1.ty, kitL d0, isLD d0, rfl, ?_⟩
          cases g1 with
          | non => exact iteT (iteT (qF (fun z => by obtain ⟨_, M, ls, _, _, m, l, e, _⟩ := at0 z; cases e) (Same.refl H)))
          | bl b => exact iteT (iteT (qF (fun z => by obtain ⟨_, M, ls, _, _, m, l, e, _⟩ := at0 z; cases e) (Same.refl H)))
          | int i => exact iteT (iteT (qF (fun z => by obtain ⟨_, M, ls, _, _, m, l, e, _⟩ := at0 z; cases e) (Same.refl H)))
          | str x => exact iteT (iteT (qF (fun z => by obtain ⟨_, M, ls, _, _, m, l, e, _⟩ := at0 z; cases e) (Same.refl H)))
          | tup _ _ => exact iteT (iteT (qF (fun z => by obtain ⟨_, M, ls, _, _, m, l, e, _⟩ := at0 z; cases e) (Same.refl H)))
          | lst k1 k2 =>
            rename_i r us es
            refine iteF ?_
            have lu : us.length = es.length := k2.len
            have bad : ¬ (1 ≤ es.length ∧ es.length ≤ 36) → ¬ LowD p (.list (.list es :: ds)) := fun z z2 => by
              obtain ⟨a1, M, ls, _, _, m, l, e, w, hl⟩ := at0 z2
              have e : es = m.map PyData.int := by injection e
              have e2 : n0 (.list es :: ds) = es.length := rfl
              omega
            refine ⟨_, rfl, a, _, _, _, rfl, rfl, SqL.of h1, atI_nat (j := 0) hx0, r, _, rfl, .inl (SqL.of k1), _, _, rfl, rfl, _, rfl, ?_⟩
            rw [lu]
            by_cases c1 : 1 ≤ es.length
            · rw [decide_eq_true (show (1 : Int) ≤ (es.length : Nat) by omega)]
              refine iteT ?_
              refine ⟨_, _, rfl, rfl, _, rfl, ?_⟩
              by_cases c2 : es.length ≤ 36
              · rw [decide_eq_true (show ((es.length : Nat) : Int) ≤ 36 by omega)]
                refine iteF ?_
                refine ⟨_, rfl, _, rfl, a, _, _, _, rfl, rfl, SqL.of h1, atI_nat (j := 0) hx0, r, _, rfl, .inl (SqL.of k1), _, rfl, ?_⟩
                refine ⟨p, es.length, .ref a, .list (.list es :: ds), by rw [lu]; rfl, .lst h1 (.cons (.lst k1 k2) g2), by omega, fun H1 s1 => ?_⟩
                refine ⟨_, rfl, ?_⟩
                cases hB : rowsB p es.length (.list (.list es :: ds)) with
                | false =>
                  refine iteF (qF (fun z => ?_) s1)
                  obtain ⟨a1, M, ls, e1, L, _⟩ := at0 z
                  have e2 : n0 (.list es :: ds) = es.length := rfl
                  rw [e2] at L
                  have : rowsB p es.length (.list (.list es :: ds)) = true := by
                    rw [e1]
                    show (M.map dRow).all (rowB p es.length) = true
                    rw [List.all_map]
                    exact List.all_eq_true.mpr fun m hm => rowB_wf (L.wf m hm)
                  rw [hB] at this
                  cases this
                | true =>
                  refine iteT ?_
                  obtain ⟨M, eM, wM⟩ := rowsB_tab (p := p) (n := es.length) (ds := .list es :: ds) hB
                  have all2 : DhAll H (.ref r :: xs) (M.map dRow) := by
                    rw [← eM]
                    exact .cons (.lst k1 k2) g2
                  obtain ⟨rs, ex, hT⟩ := dh_tab h1 all2
                  have hT1 := hT.same s1
                  have lM : M.length ≤ 200 := by
                    have := few _ rfl
                    rw [eM, List.length_map] at this
                    exact this
                  refine ⟨_, rfl, _, rfl, ⟨p, es.length, a, rs, M, rfl, hp, by omega, hT1, wM, lM, fun H2 b qs s2 nb tb nq => ?_⟩⟩
                  refine ⟨_, rfl, _, _, tb.dp, (hT1.same s2).dp, dTab_shaped _, dTab_shaped _, ?_⟩
                  rw [dTab_eqv]
                  have qq := q H2 (s1.trans s2)
                  rw [show lowB p (.list (.list es :: ds)) = decide (lowM p (invM p) M = M) from lowB_iff ?_] at qq
                  · exact qq
                  · rw [decide_eq_true_iff]
                    constructor
                    · rintro ⟨n, N, ls, e1, _, L⟩
                      have e1 : (.list es :: ds : List PyData) = N.map dRow := by injection e1
                      have e2 : M = N := dTab_inj (by rw [← eM, e1])
                      subst e2
                      exact lowM_low two (inv_is hp) L
                    · intro e1
                      obtain ⟨ls, L, _⟩ := lowM_ok two (inv_is hp) wM
                      rw [e1] at L
                      exact ⟨es.length, M, ls, by rw [eM]; rfl, c2, L⟩
              · rw [decide_eq_false (show ¬ ((es.length : Nat) : Int) ≤ 36 by omega)]
                exact iteT (qF (bad fun z => c2 z.2) (Same.refl H))
            · rw [decide_eq_false (show ¬ (1 : Int) ≤ (es.length : Nat) by omega)]
              exact iteF ⟨_, rfl, iteT (qF (bad fun z => c1 z.1) (Same.refl H))⟩
end

/-! ### _law_odd -/
section
variable {P : Program} {w : World} {K : PySem.W.Frag} {mg : Str → Option Value} {base : Heap}
abbrev sOdd : Stmt := topS 22
abbrev nOdd : List Str := ["_law_p", "_law_bag_here", "_law_far"]
theorem scOdd : FnScope nOdd ["_law_p", "_law_bag_here"] (defScope sOdd) := ⟨rfl, rfl, rfl, by decide +kernel, rfl, by decide +kernel, by decide +kernel⟩
def spOdd : Sp := fun vs H Q _ => ∃ (p : Int) (b : Addr) (c : Nat), vs = [.int p, .ref b] ∧ P5 p ∧ Bg H b c ∧ c < 2 ^ 20 ∧ ∀ H' v, Off b H H' → (∀ H2 : Hp, (∀ q, H q = none → H2 q = H' q) → Is H2 1 1 v) → Bg H' b (c + 2) → Q v H'
theorem ok_odd {f fT : Addr} {fd fdT : FuncData} {k : Nat} (F : Fun K "_law_odd" "_law_odd" sOdd f fd)
    (GT : FnOk P w K mg base CX0 (k + 1) fT fdT ["_law_bag_here", "_law_many"] spTake) (bT : Binds K fdT ["_law_bag_here", "_law_many"] []) (kT : PySem.W.keepIn K (.ref fT) = true) (mT : mg "_law_take" = some (.ref fT)) : FnOk P w K mg base CX0 (k + 2) f fd ["_law_p", "_law_bag_here"] spOdd := by
  refine F.ok scOdd (fun vs H Q E h => ?_) (fun cdv A outer s H vs Q E hr h => ?_)
  · obtain ⟨p, b, c, rfl, _⟩ := h
    rfl
  · obtain ⟨p, b, c, rfl, h5, bag, hc, q⟩ := h
    refine ⟨_, pss_cons (ps_set (i := 2) scOdd.nd rfl (.inl rfl) (pe_op op_add (pe_op op_pow pe_int pe_int) (pe_call GT hr (by rfl) mT kT bT .nil pass0 (pa_cons (pv 1) (pa_cons (pe_op op_pow pe_int pe_int) pa_nil)))))
      (pss_one (ps_ret (pe_ix ix_list (pe_lst (pa_cons (pv 0) (pa_cons (pe_un un_neg pe_int) (pa_cons pe_bl (pa_cons pe_bl (pa_cons pe_non (pa_cons pe_str (pa_cons (pv 2) (pa_cons (pe_op op_sub pe_int (pv 2)) (pa_cons (pe_lst (pa_cons pe_int pa_nil)) (pa_cons (pe_op op_sub (pv 0) pe_int) (pa_cons pe_int (pa_cons pe_int pa_nil))))))))))))) (pe_call GT hr (by rfl) mT kT bT .nil pass0 (pa_cons (pv 1) (pa_cons pe_int pa_nil))) (fun _ _ => rfl)))), ?_⟩
    have two := h5.two
    have le := h5.le
    refine ⟨_, _, rfl, rfl, ⟨by decide, by decide, by decide⟩, _, rfl, _, _, rfl, rfl, ⟨by decide, by decide, by decide⟩, ⟨b, _, c, rfl, by rw [ten18k]; decide, by rw [ten18k]; decide, bag, by omega, fun d1 H1 a1 b1 off1 _ bag1 => ?_⟩⟩
    rw [ten18k] at b1
    refine ⟨_, _, rfl, rfl, ?_⟩
    rw [ten59k]
    obtain ⟨far, hfar⟩ : ∃ far : Int, far = 100000000000000000000000000000000000000000000000000000000000 + d1 := ⟨_, rfl⟩
    have ff : far.natAbs < 10 ^ 60 := by rw [tenK]; omega
    dsimp only
    rw [← hfar]
    refine step_name ?_
    refine ⟨_, rfl, _, rfl, _, rfl, _, rfl, _, _, rfl, rfl, (by show 1 ≤ sizeLine; decide), fun u nu => ?_⟩
    have s2 : Same H1 (L2.upd H1 u (.lst [.int 1])) := same_new nu
    have hu : (L2.upd H1 u (.lst [.int 1])) u = some (.lst [.int 1]) := upd_same
    have bag2 := bgk bag1 s2
    have nub : u ≠ b := bag1.ne nu
    have off2 := off1.trans (Off.of s2)
    generalize L2.upd H1 u (.lst [.int 1]) = H2 at *
    refine ⟨_, rfl, _, _, rfl, rfl, (by show 12 ≤ sizeLine; decide), fun ol nol => ?_⟩
    obtain ⟨ov, hov⟩ : ∃ l : List V, l = [.int p, .int (-1), .bl true, .bl false, .non, .str "1", .int far, .int (0 - far), .ref u, .int (p - 1), .int 0, .int 1] := ⟨_, rfl⟩
    have s4 : Same H2 (L2.upd H2 ol (.lst ov)) := same_new nol
    have hol : (L2.upd H2 ol (.lst ov)) ol = some (.lst ov) := upd_same
    have nolb : ol ≠ b := bag2.ne nol
    have bag4 := bgk bag2 s4
    have hu4 := s4 _ _ hu
    have off4 := off2.trans (Off.of s4)
    rw [hov] at s4 hol bag4 hu4 off4
    refine ⟨_, rfl, ⟨b, 12, _, rfl, by decide, by decide, bag4, by omega, fun d2 H5 a2 b2 off5 _ bag5 => ?_⟩⟩
    have hol5 := off5 _ _ nolb hol
    have hu5 := off5 _ _ nub hu4
    have off05 := off4.trans off5
    rw [← hov] at hol5
    obtain ⟨n2, rfl⟩ := Int.eq_ofNat_of_zero_le a2
    obtain ⟨x, hx⟩ := get_of (l := ov) (i := n2) (by rw [hov]; show n2 < 12; omega)
    refine ⟨ol, _, _, _, rfl, rfl, SqL.of hol5, at_of (j := n2) rfl hx, ?_⟩
    have hm := List.mem_of_getElem? hx
    have nu0 : H u = none := by
      cases z : H u with
      | none => rfl
      | some o =>
        have := off1 _ _ nub z
        rw [nu] at this
        cases this
    refine q H5 x off05 (fun Hz hk => ?_) bag5
    rw [hov] at hm
    simp only [List.mem_cons, List.not_mem_nil, or_false] at hm
    rcases hm with rfl | rfl | rfl | rfl | rfl | rfl | rfl | rfl | rfl | rfl | rfl | rfl
    · exact is_small (by omega) (by omega)
    · exact is_small (by decide) (by decide)
    · exact is_bl _
    · exact is_bl _
    · exact is_non
    · exact ⟨_, .str "1", (sm_str1.mono (Nat.zero_le _)).sb (by decide +kernel)⟩
    · exact is_int ff
    · exact is_int (by rw [Int.zero_sub, Int.natAbs_neg]; exact ff)
    · exact (is_lst (n := 0) (B := 0) (m := 1) ((hk u nu0).trans hu5) (fun v hv => by rw [List.mem_singleton.mp hv]; exact is_small (by decide) (by decide)) (by decide)).mono (by decide) (by decide)
    · exact is_small (by omega) (by omega)
    · exact is_small (by decide) (by decide)
    · exact is_small (by decide) (by decide)
end

/-! ### _law_spoilt -/
section
variable {P : Program} {w : World} {K : PySem.W.Frag} {mg : Str → Option Value} {base : Heap}
abbrev sSpo : Stmt := topS 23
abbrev nSpo : List Str := ["_law_p", "_law_form_here", "_law_bag_here", "_law_rows_here", "_law_one", "_law_other", "_law_place", "_law_way", "_law_row", "_law_number"]
theorem scSpo : FnScope nSpo ["_law_p", "_law_form_here", "_law_bag_here"] (defScope sSpo) := ⟨rfl, rfl, rfl, by decide +kernel, rfl, by decide +kernel, by decide +kernel⟩
/-- what has come since H0 -/
def fr (H0 H : Hp) : Hp := fun q => match H0 q with
  | none => H q
  | some _ => none
theorem fr_at {H0 H : Hp} {q : Addr} (h : H0 q = none) : fr H0 H q = H q := by
  unfold fr
  rw [h]
theorem fr_inv {H0 H : Hp} {q : Addr} {o : HO} (h : fr H0 H q = some o) : H0 q = none ∧ H q = some o := by
  unfold fr at h
  cases c : H0 q with
  | none =>
    rw [c] at h
    exact ⟨rfl, h⟩
  | some u =>
    rw [c] at h
    cases h
theorem rows_is {p : Int} {n : Nat} {H H' : Hp} {l : Addr} {rs : List Addr} {M : List Row} (t : Tab H l rs M) (wM : Wfs p n M) (h5 : P5 p) (n36 : n ≤ 36) {x : Addr} {H0 : Hp} (hx : x ∈ rs) (hb : H0 x = none) (e : H' x = H x) : Is (fr H0 H') 2 76 (.ref x) := by
  obtain ⟨m, hm, im⟩ := IL.ref t hx
  have w := wM m hm
  exact is_row (show fr H0 H' x = _ from (fr_at hb).trans (e.trans im)) h5.le w.rng (by rw [w.len]; omega)
theorem tab_self {H : Hp} {l : Addr} {rs : List Addr} {M : List Row} (t : Tab H l rs M) {x : Addr} (hx : x ∈ rs) : x ≠ l := by
  obtain ⟨m, _, hm⟩ := IL.ref t hx
  cases rs with
  | nil => simp at hx
  | cons y ys => exact rf_ne t.at_ hm
theorem rf_mem {rs : List Addr} {v : V} (h : v ∈ rf rs) : ∃ x ∈ rs, v = .ref x := by
  obtain ⟨x, hx, e⟩ := List.mem_map.mp h
  exact ⟨x, hx, e.symm⟩
theorem spo_end {H' : Hp} {l : Addr} {vs : List V} (hl : H' l = some (.lst vs)) (hv : ∀ v ∈ vs, Is H' 2 76 v) (hn : vs.length ≤ 38) : ∃ d, Dh H' (.ref l) d ∧ Sb 3 2926 d ∧ ∀ ds, d = .list ds → ds.length ≤ 200 := by
  obtain ⟨ds, a, b, c⟩ := is_all hv
  refine ⟨.list ds, .lst hl a, sb_list (m := 38) c (by omega), fun es e => ?_⟩
  injection e with e
  rw [← e]
  omega
theorem spo_endT {H' : Hp} {l : Addr} {vs : List V} (hl : H' l = some (.tup vs)) (hv : ∀ v ∈ vs, Is H' 2 76 v) (hn : vs.length ≤ 38) : ∃ d, Dh H' (.ref l) d ∧ Sb 3 2926 d ∧ ∀ ds, d = .list ds → ds.length ≤ 200 := by
  obtain ⟨ds, a, b, c⟩ := is_all hv
  exact ⟨.tuple ds, .tup hl a, sb_tup (m := 38) c (by omega), fun es e => by cases e⟩
def spSpo : Sp := fun vs H Q _ => ∃ (p : Int) (n : Nat) (a b : Addr) (c : Nat) (rs : List Addr) (M : List Row), vs = [.int p, .ref a, .ref b] ∧ P5 p ∧ 0 < n ∧ n ≤ 36 ∧ Tab H a rs M ∧ Wfs p n M ∧ 0 < M.length ∧ M.length ≤ 36 ∧ Bg H b c ∧ c < 2 ^ 19 ∧ a ≠ b ∧ (∀ r ∈ rs, r ≠ b) ∧
  ∀ H' v d, Off b H H' → Dh (fr H H') v d → Sb 3 2926 d → (∀ ds, d = .list ds → ds.length ≤ 200) → Bg H' b (c + 300) → Q v H'
theorem ok_spo {f fT fS fO : Addr} {fd fdT fdS fdO : FuncData} {k : Nat} (F : Fun K "_law_spoilt" "_law_spoilt" sSpo f fd)
    (GT : FnOk P w K mg base CX0 (k + 2) fT fdT ["_law_bag_here", "_law_many"] spTake) (bT : Binds K fdT ["_law_bag_here", "_law_many"] []) (kT : PySem.W.keepIn K (.ref fT) = true) (mT : mg "_law_take" = some (.ref fT))
    (GS : FnOk P w K mg base CX0 (k + 2) fS fdS ["_law_p", "_law_length", "_law_bag_here"] spSparse) (bS : Binds K fdS ["_law_p", "_law_length", "_law_bag_here"] []) (kS : PySem.W.keepIn K (.ref fS) = true) (mS : mg "_law_sparse" = some (.ref fS))
    (GO : FnOk P w K mg base CX0 (k + 2) fO fdO ["_law_p", "_law_bag_here"] spOdd) (bO : Binds K fdO ["_law_p", "_law_bag_here"] []) (kO : PySem.W.keepIn K (.ref fO) = true) (mO : mg "_law_odd" = some (.ref fO))
    (ml : mg "len" = none) (mt : mg "list" = none) (mu : mg "tuple" = none) : FnOk P w K mg base CX0 (k + 3) f fd ["_law_p", "_law_form_here", "_law_bag_here"] spSpo := by
  refine F.ok scSpo (fun vs H Q E h => ?_) (fun cdv A outer s H vs Q E hr h => ?_)
  · obtain ⟨p, n, a, b, c, rs, M, rfl, _⟩ := h
    rfl
  · obtain ⟨p, n, a, b, c, rs, M, rfl, h5, n1, n36, hT, wM, M1, M36, bag, hc, nab, nrb, q⟩ := h
    refine ⟨_, pss_cons (ps_setLc (i := 3) (own := [("_law_row", 8)]) (g := gName 8) (tt := tYes) (by rfl) scSpo.nd rfl rfl (sw_true rfl rfl rfl (by decide +kernel)) (pi_list (pv 1)) (blkOk_by (own := [("_law_row", 8)]) (N := nSpo) (sc := defScope sSpo) (by decide +kernel)) (fun _ _ _ _ _ => pg_name (i := 8) scSpo.nd rfl (Or.inl rfl)) (fun _ _ _ _ _ => pts_nil) (fun _ _ _ _ _ => (pe_callTy (cLst K rfl) (by rfl) mt (by decide +kernel) (pa_cons (pv 8) pa_nil))))
      (pss_cons (ps_set (i := 4) scSpo.nd rfl (.inl rfl) (pe_call GT hr (by rfl) mT kT bT .nil pass0 (pa_cons (pv 2) (pa_cons (pe_callB call_len_seq (by rfl) ml PySem.boot_len (pa_cons (pv 3) pa_nil)) pa_nil))))
      (pss_cons (ps_set (i := 5) scSpo.nd rfl (.inl rfl) (pe_call GT hr (by rfl) mT kT bT .nil pass0 (pa_cons (pv 2) (pa_cons (pe_callB call_len_seq (by rfl) ml PySem.boot_len (pa_cons (pv 3) pa_nil)) pa_nil))))
      (pss_cons (ps_set (i := 6) scSpo.nd rfl (.inl rfl) (pe_call GT hr (by rfl) mT kT bT .nil pass0 (pa_cons (pv 2) (pa_cons (pe_callB call_len_seq (by rfl) ml PySem.boot_len (pa_cons (pe_ix ix_list (pv 3) (pv 4) (fun _ _ => rfl)) pa_nil)) pa_nil))))
      (pss_cons (ps_set (i := 7) scSpo.nd rfl (.inl rfl) (pe_call GT hr (by rfl) mT kT bT .nil pass0 (pa_cons (pv 2) (pa_cons pe_int pa_nil))))
      (C8.pss_cut (ps_if (pt_cmpR op_eq (pv 7) pe_int (nomark _)) (pss_one (ps_asg (pe_tup (pa_cons (pe_ix ix_list (pv 3) (pv 5) (fun _ _ => rfl)) (pa_cons (pe_ix ix_list (pv 3) (pv 4) (fun _ _ => rfl)) pa_nil))) (pg_tup rfl (pgs_cons (pg_sub (pv 3) (pv 4) set_list (fun _ => rfl)) (pgs_cons (pg_sub (pv 3) (pv 5) set_list (fun _ => rfl)) pgs_nil)))))
        (pss_one (ps_if (pt_cmpR op_eq (pv 7) pe_int (nomark _)) (pss_one (ps_expr (pe_bm PySem.F.plainAttrs_list PySem.F.slot_list_insert PySem.F.type_list_insert mt_insert (pv 3) (pa_cons (pv 5) (pa_cons (pe_callTy (cLst K rfl) (by rfl) mt (by decide +kernel) (pa_cons (pe_ix ix_list (pv 3) (pv 4) (fun _ _ => rfl)) pa_nil)) pa_nil)))))
        (pss_one (ps_if (pt_cmpR op_eq (pv 7) pe_int (nomark _)) (pss_one (ps_expr (pe_bm PySem.F.plainAttrs_list PySem.F.slot_list_insert PySem.F.type_list_insert mt_insert (pv 3) (pa_cons (pv 5) (pa_cons (pe_lc (own := [("_law_number", 9)]) (g := gName 9) (tt := tYes) (by rfl) scSpo.nd (pi_list (pe_ix ix_list (pv 3) (pv 4) (fun _ _ => rfl))) (blkOk_by (own := [("_law_number", 9)]) (N := nSpo) (sc := defScope sSpo) (by decide +kernel)) (fun _ _ _ _ _ => pg_name (i := 9) scSpo.nd rfl (Or.inl rfl)) (fun _ _ _ _ _ => pts_nil) (fun _ _ _ _ _ => pe_int)) pa_nil)))))
        (pss_one (ps_if (pt_cmpR op_eq (pv 7) pe_int (nomark _)) (pss_one (ps_asg (pe_lc (own := [("_law_number", 9)]) (g := gName 9) (tt := tYes) (by rfl) scSpo.nd (pi_list (pe_ix ix_list (pv 3) (pv 4) (fun _ _ => rfl))) (blkOk_by (own := [("_law_number", 9)]) (N := nSpo) (sc := defScope sSpo) (by decide +kernel)) (fun _ _ _ _ _ => pg_name (i := 9) scSpo.nd rfl (Or.inl rfl)) (fun _ _ _ _ _ => pts_nil) (fun _ _ _ _ _ => pe_op op_mod (pe_op op_mul pe_int (pv 9)) (pv 0))) (pg_sub (pv 3) (pv 4) set_list (fun _ => rfl))))
        (pss_one (ps_if (pt_cmpR op_eq (pv 7) pe_int (nomark _)) (pss_one (ps_asg (pe_call GT hr (by rfl) mT kT bT .nil pass0 (pa_cons (pv 2) (pa_cons (pv 0) pa_nil))) (pg_sub (pe_ix ix_list (pv 3) (pv 4) (fun _ _ => rfl)) (pv 6) set_list (fun _ => rfl))))
        (pss_one (ps_if (pt_cmpR op_eq (pv 7) pe_int (nomark _)) (pss_one (ps_expr (pe_bm PySem.F.plainAttrs_list PySem.F.slot_list_append PySem.F.type_list_append mt_append (pv 3) (pa_cons (pe_call GS hr (by rfl) mS kS bS .nil pass0 (pa_cons (pv 0) (pa_cons (pe_callB call_len_seq (by rfl) ml PySem.boot_len (pa_cons (pe_ix ix_list (pv 3) (pv 4) (fun _ _ => rfl)) pa_nil)) (pa_cons (pv 2) pa_nil)))) pa_nil))))
        (pss_one (ps_if (pt_cmpR op_eq (pv 7) pe_int (nomark _)) (pss_one (ps_expr (pe_bm PySem.F.plainAttrs_list PySem.F.slot_list_append PySem.F.type_list_append mt_append (pe_ix ix_list (pv 3) (pv 4) (fun _ _ => rfl)) (pa_cons pe_int pa_nil))))
        (pss_one (ps_if (pt_cmpR op_eq (pv 7) pe_int (nomark _)) (pss_one (ps_asg (pe_callTy call_tuple_of (by rfl) mu (by decide +kernel) (pa_cons (pe_ix ix_list (pv 3) (pv 4) (fun _ _ => rfl)) pa_nil)) (pg_sub (pv 3) (pv 4) set_list (fun _ => rfl))))
        (pss_one (ps_if (pt_cmpR op_eq (pv 7) pe_int (nomark _)) (pss_one (ps_ret (pe_callTy call_tuple_of (by rfl) mu (by decide +kernel) (pa_cons (pv 3) pa_nil))))
        (pss_one (ps_asg (pe_call GO hr (by rfl) mO kO bO .nil pass0 (pa_cons (pv 0) (pa_cons (pv 2) pa_nil))) (pg_sub (pe_ix ix_list (pv 3) (pv 4) (fun _ _ => rfl)) (pv 6) set_list (fun _ => rfl))))))))))))))))))))) (pss_one (ps_ret (pv 3)))))))), ?_⟩
    have two := h5.two
    have le := h5.le
    -- the rows
    refine ⟨_, rfl, a, rfl, ⟨_, SqL.of hT.at_⟩, fun l nl => ?_⟩
    refine lc_it (walk_list (K := K) (a := a) (xs := rf rs)) (fun i H' => ∃ qs, Mt H l [] M i H' qs) ⟨[], Mt.start nl⟩ (fun i H' _ ⟨qs, m⟩ => (m.same.seq (SqL.of hT.at_))) (fun i x H1 H2 hi ⟨qs, m⟩ y => ?_) (fun H1 ⟨qs, m⟩ => ?_)
    · obtain ⟨rfl, hx⟩ := y
      obtain ⟨r, hrr, rfl⟩ := rf_inv hx
      obtain ⟨mm, hm⟩ := get_of (l := M) (i := i) (by have := get_lt hrr; have := hT.len; omega)
      have hrow : IL H2 r mm := m.same _ _ (hT.row i r mm hrr hm)
      refine ⟨rfl, ?_⟩
      refine t_yes ?_
      refine ⟨_, rfl, r, _, rfl, .inl (IL.sq hrow), fun u nu => ?_⟩
      obtain ⟨acc, e1, e2, e3⟩ := m.step nl (fun r hr => by simp at hr) (same_new nu) hm upd_same (.inr nu) (by omega)
      exact ⟨acc, e1, e2, _, e3⟩
    have tl := m.tab (by rw [List.length_map, hT.len])
    have s1 := m.same
    have nq : ∀ x ∈ qs, H x = none := fun x hx => by
      obtain ⟨i, hi⟩ := List.getElem?_of_mem hx
      exact (m.src i x hi).resolve_left (by simp)
    have nlb : l ≠ b := bag.ne nl
    have nqb : ∀ x ∈ qs, x ≠ b := fun x hx => bag.ne (nq x hx)
    have bag1 := bgk bag s1
    clear m
    have lq : (rf qs).length = M.length := by rw [List.length_map, tl.len]
    -- one
    refine ⟨_, rfl, _, rfl, l, _, rfl, .inl (SqL.of tl.at_), ⟨b, _, c, rfl, by rw [lq]; omega, by rw [lq]; omega, bag1, by omega, fun d1 H2 a1 b1 off2 _ bag2 => ?_⟩⟩
    rw [lq] at b1
    obtain ⟨j1, rfl⟩ := Int.eq_ofNat_of_zero_le a1
    have t2 := tl.off off2 nlb nqb
    -- other
    refine ⟨_, rfl, _, rfl, l, _, rfl, .inl (SqL.of t2.at_), ⟨b, _, _, rfl, by rw [lq]; omega, by rw [lq]; omega, bag2, by omega, fun d2 H3 a2 b2 off3 _ bag3 => ?_⟩⟩
    rw [lq] at b2
    obtain ⟨j2, rfl⟩ := Int.eq_ofNat_of_zero_le a2
    have t3 := t2.off off3 nlb nqb
    obtain ⟨m1, hm1⟩ := get_of (l := M) (i := j1) (by omega)
    obtain ⟨r1, hr1⟩ := get_of (l := qs) (i := j1) (by have := tl.len; omega)
    obtain ⟨m2, hm2⟩ := get_of (l := M) (i := j2) (by omega)
    obtain ⟨r2, hr2⟩ := get_of (l := qs) (i := j2) (by have := tl.len; omega)
    have w1 := wM m1 (List.mem_of_getElem? hm1)
    have mr1 := List.mem_of_getElem? hr1
    have i3 := t3.row j1 r1 m1 hr1 hm1
    have lm1 : (iv m1).length = n := by rw [List.length_map, w1.len]
    -- place
    refine ⟨_, rfl, _, rfl, _, rfl, l, _, _, _, rfl, rfl, SqL.of t3.at_, atI_nat (rf_get hr1), r1, _, rfl, .inl (IL.sq i3), ⟨b, _, _, rfl, by rw [lm1]; omega, by rw [lm1]; omega, bag3, by omega, fun d3 H4 a3 b3 off4 _ bag4 => ?_⟩⟩
    rw [lm1] at b3
    obtain ⟨j3, rfl⟩ := Int.eq_ofNat_of_zero_le a3
    have t4 := t3.off off4 nlb nqb
    -- way
    refine ⟨_, rfl, ⟨b, 10, _, rfl, by decide, by decide, bag4, by omega, fun d4 H5 a4 b4 off5 _ bag5 => ?_⟩⟩
    have tab := t4.off off5 nlb nqb
    have i1 := tab.row j1 r1 m1 hr1 hm1
    have off : Off b H H5 := (((Off.of s1).trans off2).trans off3).trans (off4.trans off5)
    have ne1 : ∀ x ∈ qs, x ≠ l := fun x hx => tab_self tab hx
    have h1l := ne1 r1 mr1
    have il := tab.at_
    clear t2 t3 t4 i3 tl
    have nr1 := nq r1 mr1
    -- each of the rows, where it stands yet
    have rw_ : ∀ {H' : Hp} {x : Addr}, x ∈ qs → H' x = H5 x → Is (fr H H') 2 76 (.ref x) := fun hx e => rows_is tab wM h5 n36 hx (nq _ hx) e
    have at5 : ∀ x ∈ qs, ∃ o, H5 x = some o := fun x hx => by
      obtain ⟨m, _, hm⟩ := IL.ref tab hx
      exact ⟨_, hm⟩
    have at5l : ∃ o, H5 l = some o := ⟨_, il⟩
    have lq5 : j1 < (rf qs).length := by rw [lq]; omega
    have lq6 : j2 < (rf qs).length := by rw [lq]; omega
    have few : M.length < sizeLine := small1000 (by omega)
    refine ⟨fun σ' H' => ∃ vs, σ'[3]? = some (some (.ref l)) ∧ Off b H H' ∧ H' l = some (.lst vs) ∧ (∀ v ∈ vs, Is (fr H H') 2 76 v) ∧ vs.length ≤ 38 ∧ Bg H' b (c + 300), ?_, fun σ' H' hW => ?_⟩
    · have is1 : ∀ x ∈ m1, Is H5 1 1 (.int x) := fun x hx => by
        have := w1.rng x hx
        exact is_small (by omega) (by omega)
      refine ⟨_, rfl, rfl, _, rfl, ite2 (fun _ => ?_) (fun _ => ?_)⟩
      · -- exchanged
        refine ⟨_, rfl, _, rfl, l, _, _, _, rfl, rfl, SqL.of il, atI_nat (rf_get hr2), _, rfl, _, rfl, l, _, _, _, rfl, rfl, SqL.of il, atI_nat (rf_get hr1), (by show 2 ≤ sizeLine; decide), fun t nt => ?_⟩
        have ntl : l ≠ t := ne_of_none il nt
        have st := same_new (o := .tup [.ref r2, .ref r1]) nt
        have il6 := st _ _ il
        refine ⟨t, _, rfl, .inl (.inl upd_same), rfl, _, _, rfl, _, rfl, _, rfl, l, _, (j1 : Int), j1, rfl, rfl, il6, ix_set lq5, _, _, rfl, _, rfl, _, rfl, l, _, (j2 : Int), j2, rfl, rfl, upd_same, ix_set (by rw [List.length_set]; exact lq6), rfl, ?_⟩
        refine ⟨_, rfl, ((off.new (off.free nt (bag5.ne nt))).new nl).new nl, upd_same, fun v hv => ?_, by rw [List.length_set, List.length_set, lq]; omega, ((bag5.same (upd_ne (bag5.ne nt).symm)).same (upd_ne nlb.symm)).same (upd_ne nlb.symm) |>.mono (by omega)⟩
        have hv : v ∈ rf qs := by
          rcases List.mem_or_eq_of_mem_set hv with h | h
          · rcases List.mem_or_eq_of_mem_set h with h | h
            · exact h
            · rw [h]
              exact List.mem_map_of_mem (List.mem_of_getElem? hr2)
          · rw [h]
            exact List.mem_map_of_mem mr1
        obtain ⟨x, hx, rfl⟩ := rf_mem hv
        obtain ⟨o, ho⟩ := at5 x hx
        exact rw_ hx (by rw [upd_ne (ne1 x hx), upd_ne (ne1 x hx), upd_ne (ne_of_none ho nt)])
      refine ⟨_, rfl, rfl, _, rfl, ite2 (fun _ => ?_) (fun _ => ?_)⟩
      · -- a row twice
        refine ⟨_, rfl, .inl ⟨rfl, _, SqL.of il⟩, _, rfl, _, rfl, _, rfl, l, _, _, _, rfl, rfl, SqL.of il, atI_nat (rf_get hr1), r1, _, rfl, .inl (IL.sq i1), fun u nu => ?_⟩
        have su := same_new (o := .lst (iv m1)) nu
        refine ⟨l, _, (j2 : Int), _, rfl, rfl, su _ _ il, by rw [lq]; exact few, by omega, by omega, ?_⟩
        rw [Int.toNat_natCast]
        have nul : l ≠ u := ne_of_none il nu
        have iu : IL (L2.upd H5 u (.lst (iv m1))) u m1 := upd_same
        refine ⟨_, rfl, (off.new (off.free nu (bag5.ne nu))).new nl, upd_same, fun v hv => ?_, by rw [List.length_append, List.length_append, List.length_take, List.length_drop, lq, List.length_singleton]; omega, ((bag5.same (upd_ne (bag5.ne nu).symm)).same (upd_ne nlb.symm)).mono (by omega)⟩
        rw [List.mem_append, List.mem_append, List.mem_singleton] at hv
        have hv : v ∈ rf qs ∨ v = .ref u := by
          rcases hv with (h | h) | h
          · exact .inl (List.mem_of_mem_take h)
          · exact .inr h
          · exact .inl (List.mem_of_mem_drop h)
        rcases hv with h | rfl
        · obtain ⟨x, hx, rfl⟩ := rf_mem h
          obtain ⟨o, ho⟩ := at5 x hx
          exact rw_ hx (by rw [upd_ne (ne1 x hx), upd_ne (ne_of_none ho nu)])
        · exact is_row (show IL _ u m1 by show (fr H (L2.upd _ l _)) u = _; rw [fr_at (off.free nu (bag5.ne nu)), upd_ne nul.symm]; exact iu) le w1.rng (by rw [w1.len]; omega)
      refine ⟨_, rfl, rfl, _, rfl, ite2 (fun _ => ?_) (fun _ => ?_)⟩
      · -- noughts
        refine ⟨_, rfl, .inl ⟨rfl, _, SqL.of il⟩, _, rfl, _, rfl, _, rfl, l, _, _, _, rfl, rfl, SqL.of il, atI_nat (rf_get hr1), r1, rfl, ⟨_, IL.sq i1⟩, fun D nD => ?_⟩
        refine lc_it (walk_list (K := K) (a := r1) (xs := iv m1)) (fun i H' => Mk H5 D (zeros n) i H') (Mk.start nD) (fun i H' _ mk => mk.same.seq (IL.sq i1)) (fun i x H6 H7 hi mk y => ?_) (fun H6 mk => ?_)
        · obtain ⟨rfl, hx⟩ := y
          refine ⟨rfl, t_yes ?_⟩
          exact mk.step nD (Same.refl _) (by unfold zeros; rw [List.getElem?_replicate, if_pos (by have := get_lt hx; rw [lm1] at this; exact this)]) (by rw [zeros_len]; omega)
        have iD := mk.done (by rw [zeros_len]; exact lm1)
        have s6 := mk.same
        have nlD : l ≠ D := ne_of_none il nD
        have n0D := off.free nD (bag5.ne nD)
        refine ⟨l, _, (j2 : Int), _, rfl, rfl, s6 _ _ il, by rw [lq]; exact few, by omega, by omega, ?_⟩
        rw [Int.toNat_natCast]
        refine ⟨_, rfl, (off.trans (Off.of s6)).new nl, upd_same, fun v hv => ?_, by rw [List.length_append, List.length_append, List.length_take, List.length_drop, lq, List.length_singleton]; omega, ((bgk bag5 s6).same (upd_ne nlb.symm)).mono (by omega)⟩
        rw [List.mem_append, List.mem_append, List.mem_singleton] at hv
        have hv : v ∈ rf qs ∨ v = .ref D := by
          rcases hv with (h | h) | h
          · exact .inl (List.mem_of_mem_take h)
          · exact .inr h
          · exact .inl (List.mem_of_mem_drop h)
        rcases hv with h | rfl
        · obtain ⟨x, hx, rfl⟩ := rf_mem h
          obtain ⟨o, ho⟩ := at5 x hx
          exact rw_ hx (by rw [upd_ne (ne1 x hx), ho]; exact s6 _ _ ho)
        · exact is_row (p := 2) (show IL _ D (zeros n) by show (fr H (L2.upd _ l _)) D = _; rw [fr_at (off.free nD (bag5.ne nD)), upd_ne nlD.symm]; exact iD) (by decide) (fun x hx => by rw [List.eq_of_mem_replicate hx]; decide) (by rw [zeros_len]; omega)
      refine ⟨_, rfl, rfl, _, rfl, ite2 (fun _ => ?_) (fun _ => ?_)⟩
      · -- times 2
        refine ⟨_, rfl, _, rfl, l, _, _, _, rfl, rfl, SqL.of il, atI_nat (rf_get hr1), r1, rfl, ⟨_, IL.sq i1⟩, fun D nD => ?_⟩
        refine lc_it (walk_list (K := K) (a := r1) (xs := iv m1)) (fun i H' => Mk H5 D (m1.map fun x => 2 * x % p) i H') (Mk.start nD) (fun i H' _ mk => mk.same.seq (IL.sq i1)) (fun i x H6 H7 hi mk y => ?_) (fun H6 mk => ?_)
        · obtain ⟨rfl, hx⟩ := y
          obtain ⟨z, hz, rfl⟩ := iv_inv hx
          have := w1.rng z (List.mem_of_getElem? hz)
          refine ⟨rfl, t_yes ?_⟩
          refine ⟨_, rfl, _, _, rfl, rfl, .inl ⟨by omega, by omega⟩, _, rfl, _, _, rfl, rfl, by omega, ?_⟩
          exact mk.step nD (Same.refl _) (by rw [List.getElem?_map, hz]; rfl) (by rw [List.length_map, w1.len]; omega)
        have iD := mk.done (by rw [List.length_map, List.length_map])
        have s6 := mk.same
        have nlD : l ≠ D := ne_of_none il nD
        refine ⟨_, rfl, _, rfl, l, _, (j1 : Int), j1, rfl, rfl, s6 _ _ il, ix_set lq5, ?_⟩
        refine ⟨_, rfl, (off.trans (Off.of s6)).new nl, upd_same, fun v hv => ?_, by rw [List.length_set, lq]; omega, ((bgk bag5 s6).same (upd_ne nlb.symm)).mono (by omega)⟩
        rcases List.mem_or_eq_of_mem_set hv with h | rfl
        · obtain ⟨x, hx, rfl⟩ := rf_mem h
          obtain ⟨o, ho⟩ := at5 x hx
          exact rw_ hx (by rw [upd_ne (ne1 x hx), ho]; exact s6 _ _ ho)
        · refine is_row (p := p) (show IL _ D (m1.map fun x => 2 * x % p) by show (fr H (L2.upd _ l _)) D = _; rw [fr_at (off.free nD (bag5.ne nD)), upd_ne nlD.symm]; exact iD) le (fun x hx => ?_) (by rw [List.length_map, w1.len]; omega)
          obtain ⟨y, _, rfl⟩ := List.mem_map.mp hx
          exact ⟨Int.emod_nonneg _ (by omega), Int.emod_lt_of_pos _ (by omega)⟩
      -- what stands in a row whose number is put otherwise
      have put : ∀ {H6 : Hp} {v : V}, (∀ x ∈ qs, H6 x = H5 x) → H6 l = H5 l → Off b H5 H6 → Bg H6 b (c + 8) → Is (fr H (L2.upd H6 r1 (.lst ((iv m1).set j3 v)))) 1 1 v → ∃ vs, Off b H (L2.upd H6 r1 (.lst ((iv m1).set j3 v))) ∧ (L2.upd H6 r1 (.lst ((iv m1).set j3 v))) l = some (.lst vs) ∧ (∀ u ∈ vs, Is (fr H (L2.upd H6 r1 (.lst ((iv m1).set j3 v)))) 2 76 u) ∧ vs.length ≤ 38 ∧ Bg (L2.upd H6 r1 (.lst ((iv m1).set j3 v))) b (c + 300) := fun {H6 v} hq hl6 o6 bg6 iv6 => by
        refine ⟨rf qs, (off.trans o6).new nr1, by rw [upd_ne h1l.symm, hl6]; exact il, fun u hu => ?_, by rw [lq]; omega, (bg6.same (upd_ne (nqb r1 mr1).symm)).mono (by omega)⟩
        obtain ⟨x, hx, rfl⟩ := rf_mem hu
        by_cases e : x = r1
        · subst e
          refine (is_lst (n := 1) (B := 1) (m := 38) ((fr_at (nq _ hx)).trans upd_same) (fun u hu => ?_) (by rw [List.length_set, lm1]; omega)).mono (by decide) (by decide)
          rcases List.mem_or_eq_of_mem_set hu with h | rfl
          · obtain ⟨z, hz, rfl⟩ := List.mem_map.mp h
            have := w1.rng z hz
            exact is_small (by omega) (by omega)
          · exact iv6
        · exact rw_ hx (by rw [upd_ne e, hq x hx])
      refine ⟨_, rfl, rfl, _, rfl, ite2 (fun _ => ?_) (fun _ => ?_)⟩
      · -- a number put
        refine ⟨_, rfl, _, rfl, ⟨b, p, _, rfl, by omega, by omega, bag5, by omega, fun d6 H6 a6 b6 off6 _ bag6 => ?_⟩⟩
        have hq6 : ∀ x ∈ qs, H6 x = H5 x := fun x hx => by
          obtain ⟨o, ho⟩ := at5 x hx
          rw [ho]
          exact off6 _ _ (nqb x hx) ho
        have hl6 : H6 l = H5 l := by rw [il]; exact off6 _ _ nlb il
        have i6 : IL H6 r1 m1 := (hq6 r1 mr1).trans i1
        refine ⟨_, rfl, _, rfl, l, _, _, _, rfl, rfl, SqL.of (hl6.trans il), atI_nat (rf_get hr1), _, rfl, r1, _, (j3 : Int), j3, rfl, rfl, i6, ix_set (by rw [lm1]; omega), ?_⟩
        obtain ⟨vs, e1, e2, e3, e4, e5⟩ := put (v := .int d6) hq6 hl6 off6 (bag6.mono (by omega)) (is_small (by omega) (by omega))
        exact ⟨vs, rfl, e1, e2, e3, e4, e5⟩
      refine ⟨_, rfl, rfl, _, rfl, ite2 (fun _ => ?_) (fun _ => ?_)⟩
      · -- one row more
        refine ⟨_, rfl, .inl ⟨rfl, _, SqL.of il⟩, _, rfl, _, rfl, _, rfl, l, _, _, _, rfl, rfl, SqL.of il, atI_nat (rf_get hr1), r1, _, rfl, .inl (IL.sq i1), _, rfl, ⟨p, n, b, _, by rw [lm1]; rfl, by omega, by omega, by omega, bag5, by omega, fun u row H6 wr off6 nu iu bag6 => ?_⟩⟩
        have hq6 : ∀ x ∈ qs, H6 x = H5 x := fun x hx => by
          obtain ⟨o, ho⟩ := at5 x hx
          rw [ho]
          exact off6 _ _ (nqb x hx) ho
        have hl6 : H6 l = some (.lst (rf qs)) := off6 _ _ nlb il
        have nlu : l ≠ u := ne_of_none il nu
        refine ⟨l, _, _, rfl, rfl, hl6, by rw [lq]; exact few, ?_⟩
        refine ⟨_, rfl, (off.trans off6).new nl, upd_same, fun v hv => ?_, by rw [List.length_append, lq, List.length_singleton]; omega, (bag6.same (upd_ne nlb.symm)).mono (by omega)⟩
        rcases List.mem_append.mp hv with h | h
        · obtain ⟨x, hx, rfl⟩ := rf_mem h
          exact rw_ hx (by rw [upd_ne (ne1 x hx), hq6 x hx])
        · rw [List.mem_singleton.mp h]
          exact is_row (show IL _ u row by show (fr H (L2.upd _ l _)) u = _; rw [fr_at (off.free nu (bag5.ne nu)), upd_ne nlu.symm]; exact iu) le wr.rng (by rw [wr.len]; omega)
      refine ⟨_, rfl, rfl, _, rfl, ite2 (fun _ => ?_) (fun _ => ?_)⟩
      · -- a row longer
        refine ⟨_, rfl, _, rfl, l, _, _, _, rfl, rfl, SqL.of il, atI_nat (rf_get hr1), .inl ⟨rfl, _, IL.sq i1⟩, r1, _, _, rfl, rfl, i1, by rw [lm1]; exact small1000 (by omega), ?_⟩
        refine ⟨rf qs, rfl, off.new nr1, by rw [upd_ne h1l.symm]; exact il, fun v hv => ?_, by rw [lq]; omega, (bag5.same (upd_ne (nqb r1 mr1).symm)).mono (by omega)⟩
        obtain ⟨x, hx, rfl⟩ := rf_mem hv
        by_cases e : x = r1
        · subst e
          refine (is_lst (n := 1) (B := 1) (m := 38) ((fr_at (nq _ hx)).trans upd_same) (fun u hu => ?_) (by rw [List.length_append, lm1, List.length_singleton]; omega)).mono (by decide) (by decide)
          rcases List.mem_append.mp hu with h | h
          · obtain ⟨z, hz, rfl⟩ := List.mem_map.mp h
            have := w1.rng z hz
            exact is_small (by omega) (by omega)
          · rw [List.mem_singleton.mp h]
            exact is_small (by decide) (by decide)
        · exact rw_ hx (upd_ne e)
      refine ⟨_, rfl, rfl, _, rfl, ite2 (fun _ => ?_) (fun _ => ?_)⟩
      · -- a tuple
        refine ⟨_, rfl, _, rfl, l, _, _, _, rfl, rfl, SqL.of il, atI_nat (rf_get hr1), r1, _, rfl, .inl ⟨IL.sq i1, fun u nu => ?_⟩⟩
        have su := same_new (o := .tup (iv m1)) nu
        have nul : l ≠ u := ne_of_none il nu
        refine ⟨_, rfl, _, rfl, l, _, (j1 : Int), j1, rfl, rfl, su _ _ il, ix_set lq5, ?_⟩
        refine ⟨_, rfl, (off.new (off.free nu (bag5.ne nu))).new nl, upd_same, fun v hv => ?_, by rw [List.length_set, lq]; omega, ((bag5.same (upd_ne (bag5.ne nu).symm)).same (upd_ne nlb.symm)).mono (by omega)⟩
        rcases List.mem_or_eq_of_mem_set hv with h | rfl
        · obtain ⟨x, hx, rfl⟩ := rf_mem h
          obtain ⟨o, ho⟩ := at5 x hx
          exact rw_ hx (by rw [upd_ne (ne1 x hx), upd_ne (ne_of_none ho nu)])
        · refine (is_tup (n := 0) (B := 0) (m := 38) (show (fr H (L2.upd _ l _)) u = some (.tup (iv m1)) by rw [fr_at (off.free nu (bag5.ne nu)), upd_ne nul.symm, upd_same]) (fun u hu => ?_) (by rw [lm1]; omega)).mono (by decide) (by decide)
          obtain ⟨z, hz, rfl⟩ := List.mem_map.mp hu
          have := w1.rng z hz
          exact is_small (by omega) (by omega)
      refine ⟨_, rfl, rfl, _, rfl, ite2 (fun _ => ?_) (fun _ => ?_)⟩
      · -- the list a tuple
        refine ⟨_, rfl, l, _, rfl, .inl ⟨SqL.of il, fun u nu => ?_⟩⟩
        obtain ⟨d, e1, e2, e3⟩ := spo_endT (H' := fr H (L2.upd H5 u (.tup (rf qs)))) (l := u) (vs := rf qs) ((fr_at (off.free nu (bag5.ne nu))).trans upd_same) (fun v hv => by
          obtain ⟨x, hx, rfl⟩ := rf_mem hv
          obtain ⟨o, ho⟩ := at5 x hx
          exact rw_ hx (upd_ne (ne_of_none ho nu))) (by rw [lq]; omega)
        exact q _ _ d (off.new (off.free nu (bag5.ne nu))) e1 e2 e3 ((bag5.same (upd_ne (bag5.ne nu).symm)).mono (by omega))
      · -- a thing of any kind put
        refine ⟨_, rfl, _, rfl, ⟨p, b, _, rfl, h5, bag5, by omega, fun H6 v off6 isv bag6 => ?_⟩⟩
        have hq6 : ∀ x ∈ qs, H6 x = H5 x := fun x hx => by
          obtain ⟨o, ho⟩ := at5 x hx
          rw [ho]
          exact off6 _ _ (nqb x hx) ho
        have hl6 : H6 l = H5 l := by rw [il]; exact off6 _ _ nlb il
        have i6 : IL H6 r1 m1 := (hq6 r1 mr1).trans i1
        refine ⟨_, rfl, _, rfl, l, _, _, _, rfl, rfl, SqL.of (hl6.trans il), atI_nat (rf_get hr1), _, rfl, r1, _, (j3 : Int), j3, rfl, rfl, i6, ix_set (by rw [lm1]; omega), ?_⟩
        obtain ⟨vs, e1, e2, e3, e4, e5⟩ := put (v := v) hq6 hl6 off6 (bag6.mono (by omega)) (isv _ fun x hx => (fr_at (off.free hx (bag5.ne hx))).trans (upd_ne (fun e => by rw [e, i1] at hx; cases hx)))
        exact ⟨vs, rfl, e1, e2, e3, e4, e5⟩
    · obtain ⟨vs, e3, o, hl, hv, hn, bg⟩ := hW
      obtain ⟨d, f1, f2, f3⟩ := spo_end ((fr_at nl).trans hl) hv hn
      exact ⟨_, e3, q H' (.ref l) d o f1 f2 f3 bg⟩
end

/-! ### law_k02 -/
section
variable {P : Program} {w : World} {K : PySem.W.Frag} {mg : Str → Option Value} {base : Heap}
abbrev sLaw : Stmt := topS 24
abbrev nLaw : List Str := ["_law_script", "_law_k", "_law_bag_here", "_law_p", "_law_length", "_law_form_here", "_law_things", "_law_turn", "_law_whole_here", "_law_thing", "_law_due_here", "_law_kept", "_law_told", "_law_i", "_law_j"]
theorem scLaw : FnScope nLaw ["_law_script"] (defScope sLaw) := ⟨rfl, rfl, rfl, by decide +kernel, rfl, by decide +kernel, by decide +kernel⟩
/-- the body of the law's loop -/
def lawLoop : List Stmt := match stN (defBody sLaw) 0 with
  | .For _ _ b _ _ => b
  | _ => []
/-- what the first cell has besides -/
def lawIf : List Stmt := match stN lawLoop 7 with
  | .If _ b _ _ => b
  | _ => []
/-- all but what stands at S -/
def hid (S : List Addr) (H : Hp) : Hp := fun q => if q ∈ S then none else H q
theorem hid_at {S : List Addr} {H : Hp} {q : Addr} (h : q ∉ S) : hid S H q = H q := if_neg h
theorem hid_inv {S : List Addr} {H : Hp} {q : Addr} {o : HO} (h : hid S H q = some o) : q ∉ S ∧ H q = some o := by
  unfold hid at h
  by_cases c : q ∈ S
  · rw [if_pos c] at h
    cases h
  · rw [if_neg c] at h
    exact ⟨c, h⟩
/-- a thing that may be asked of, told by what doesn't stand at S -/
def Th (S : List Addr) (H : Hp) (v : V) : Prop := ∃ d, Dh (hid S H) v d ∧ Sb 4 9000 d ∧ ∀ ds, d = .list ds → ds.length ≤ 200
theorem Th.keep {S S' : List Addr} {H H' : Hp} {v : V} (t : Th S H v) (k : ∀ q o, q ∉ S → H q = some o → q ∉ S' ∧ H' q = some o) : Th S' H' v := by
  obtain ⟨d, a, b, c⟩ := t
  refine ⟨d, Dh.same (fun q o e => ?_) d v a, b, c⟩
  obtain ⟨e1, e2⟩ := hid_inv e
  obtain ⟨f1, f2⟩ := k q o e1 e2
  rw [hid_at f1]
  exact f2
theorem Th.same {S : List Addr} {H H' : Hp} {v : V} (t : Th S H v) (s : Same H H') : Th S H' v := t.keep fun q o n e => ⟨n, s q o e⟩
theorem Th.dh {S : List Addr} {H : Hp} {v : V} (t : Th S H v) : ∃ d, Dh H v d ∧ Gd 60 d ∧ ∀ ds, d = .list ds → ds.length ≤ 200 := by
  obtain ⟨d, a, b, c⟩ := t
  exact ⟨d, Dh.same (fun q o e => (hid_inv e).2) d v a, b.gd (by decide) (by decide), c⟩
theorem is_keep {S : List Addr} {H H' : Hp} {n B : Nat} {v : V} (t : Is (hid S H) n B v) (s : Same H H') : Is (hid S H') n B v := t.same fun q o e => by
  obtain ⟨e1, e2⟩ := hid_inv e
  rw [hid_at e1]
  exact s q o e2
theorem th_list {S : List Addr} {H : Hp} {q : Addr} {vs : List V} (h : H q = some (.lst vs)) (n : q ∉ S) (hv : ∀ v ∈ vs, Is (hid S H) 2 76 v) (hn : vs.length ≤ 38) : Th S H (.ref q) := by
  obtain ⟨d, a, b, c⟩ := spo_end ((hid_at n).trans h) hv hn
  exact ⟨d, a, b.mono (by decide) (by decide), c⟩
theorem th_tup {S : List Addr} {H : Hp} {q : Addr} {vs : List V} (h : H q = some (.tup vs)) (n : q ∉ S) (hv : ∀ v ∈ vs, Is (hid S H) 2 76 v) (hn : vs.length ≤ 38) : Th S H (.ref q) := by
  obtain ⟨d, a, b, c⟩ := spo_endT ((hid_at n).trans h) hv hn
  exact ⟨d, a, b.mono (by decide) (by decide), c⟩
theorem th_flat {S : List Addr} {H : Hp} {v : V} {d : PyData} (a : Dh (hid S H) v d) (b : Sm 0 d) (c : ∀ ds, d ≠ .list ds) : Th S H v := ⟨d, a, ((b.mono (by decide)).sb (B := 50) b.bulk).mono (Nat.le_refl _) (by decide), fun ds e => absurd e (c ds)⟩
theorem th_row {S : List Addr} {H : Hp} {q : Addr} {r : Row} {p : Int} (h : IL H q r) (n : q ∉ S) (hp : p ≤ 11) (hr : ∀ x ∈ r, 0 ≤ x ∧ x < p) (hl : r.length ≤ 38) : Is (hid S H) 2 76 (.ref q) := is_row (show hid S H q = _ from (hid_at n).trans h) hp hr hl
theorem th_tab {S : List Addr} {H : Hp} {a : Addr} {rs : List Addr} {M : List Row} {p : Int} {n : Nat} (t : Tab H a rs M) (wM : Wfs p n M) (h5 : P5 p) (hn : n ≤ 36) (na : a ∉ S) (nr : ∀ r ∈ rs, r ∉ S) (hl : M.length ≤ 38) : Th S H (.ref a) := th_list t.at_ na (fun v hv => by
  obtain ⟨x, hx, rfl⟩ := rf_mem hv
  obtain ⟨m, hm, im⟩ := IL.ref t hx
  exact th_row im (nr x hx) h5.le (wM m hm).rng (by rw [(wM m hm).len]; omega)) (by rw [List.length_map, t.len]; exact hl)
theorem rep_rng {n : Nat} {y : Int} (h : 0 ≤ y ∧ y < 2) : ∀ x ∈ List.replicate n y, 0 ≤ x ∧ x < 2 := fun x hx => by
  rw [List.eq_of_mem_replicate hx]
  exact h
theorem one_rng {n : Nat} : ∀ x ∈ (1 : Int) :: List.replicate n 0, 0 ≤ x ∧ x < 2 := fun x hx => by
  rcases List.mem_cons.mp hx with rfl | h
  · decide
  · exact rep_rng (by decide) x h
theorem nb1 {q b : Addr} (h : q ≠ b) : q ∉ [b] := fun z => h (List.mem_singleton.mp z)
theorem Grown.seq {T : Addr} {H H' : Hp} {a : Addr} {xs : List V} (g : Grown T H H') (t : GxR.TabG H T) (h : SqL K H a xs) : SqL K H' a xs := by
  rcases h with (h | ⟨o, h⟩) | h
  · exact .inl (.inl (g.at t h fun _ z => by cases z))
  · exact .inl (.inr ⟨o, g.at t h fun _ z => by cases z⟩)
  · exact .inr h
theorem ok_law {f fB fP fT fR fF fS fD fI T : Addr} {fd fdB fdP fdT fdR fdF fdS fdD fdI : FuncData} (F : Fun K "law" "law" sLaw f fd) (hb : ∀ (s : Shared) (v : Value), BindsTo s fd ⟨[v], []⟩ [("_law_script", v)])
    (GB : FnOk P w K mg base CX0 6 fB fdB ["_law_script", "_law_at"] (spBag K)) (bB : Binds K fdB ["_law_script", "_law_at"] []) (kB : PySem.W.keepIn K (.ref fB) = true) (mB : mg "_law_bag" = some (.ref fB))
    (GP : FnOk P w K mg base CX0 6 fP fdP ["_law_bag_here"] spPrime) (bP : Binds K fdP ["_law_bag_here"] []) (kP : PySem.W.keepIn K (.ref fP) = true) (mP : mg "_law_prime" = some (.ref fP))
    (GT : FnOk P w K mg base CX0 6 fT fdT ["_law_bag_here", "_law_many"] spTake) (bT : Binds K fdT ["_law_bag_here", "_law_many"] []) (kT : PySem.W.keepIn K (.ref fT) = true) (mT : mg "_law_take" = some (.ref fT))
    (GR : FnOk P w K mg base CX0 6 fR fdR ["_law_p", "_law_length", "_law_many", "_law_bag_here"] spRows) (bR : Binds K fdR ["_law_p", "_law_length", "_law_many", "_law_bag_here"] []) (kR : PySem.W.keepIn K (.ref fR) = true) (mR : mg "_law_rows" = some (.ref fR))
    (GF : FnOk P w K mg base CX0 6 fF fdF ["_law_p", "_law_rows_here"] spForm) (bF : Binds K fdF ["_law_p", "_law_rows_here"] []) (kF : PySem.W.keepIn K (.ref fF) = true) (mF : mg "_law_form" = some (.ref fF))
    (GS : FnOk P w K mg base CX0 6 fS fdS ["_law_p", "_law_form_here", "_law_bag_here"] spSpo) (bS : Binds K fdS ["_law_p", "_law_form_here", "_law_bag_here"] []) (kS : PySem.W.keepIn K (.ref fS) = true) (mS : mg "_law_spoilt" = some (.ref fS))
    (GD : FnOk P w K mg base CX0 6 fD fdD ["_law_p", "_law_thing"] spDuL) (bD : Binds K fdD ["_law_p", "_law_thing"] []) (kD : PySem.W.keepIn K (.ref fD) = true) (mD : mg "_law_due" = some (.ref fD))
    (GI : FnOk P w K mg base CX0 6 fI fdI ["p", "thing"] (spIsl T)) (bI : Binds K fdI ["p", "thing"] []) (kI : PySem.W.keepIn K (.ref fI) = true) (mI : mg "is_low" = some (.ref fI))
    (ml : mg "len" = none) (mr : mg "range" = none) (mx : mg "max" = none) (mn : mg "min" = none) (mi : mg "int" = none) (mz : mg "isinstance" = none) (mb : mg "bool" = none) (ms : mg "str" = none) : LwT P w K mg base f T := by
  refine lawT_run F scLaw hb fun cdv s H a ns h63 htab hS hr => ?_
  have hu : (callerA.deeper (envOfC "law" (defScope sLaw) s.heap.objs.size f cdv)).units + 100 < cLine := by have := hr.un; omega
  refine ⟨_, pss_cons (ps_for PassesOwn.never rfl (pi_range1 rfl mr (pa_cons (pe_callB (call_max2 rfl) (by rfl) mx (by decide +kernel) (pa_cons pe_int (pa_cons (pe_callB (call_min2 rfl) (by rfl) mn (by decide +kernel) (pa_cons (pe_callB call_len_seq (by rfl) ml PySem.boot_len (pa_cons (pv 0) pa_nil)) (pa_cons pe_int pa_nil))) pa_nil))) pa_nil)) (pg_name (i := 1) scLaw.nd rfl (Or.inl rfl))
        (pss_cons (ps_set (i := 2) scLaw.nd rfl (.inl rfl) (pe_call GB hr (by rfl) mB kB bB .nil pass0 (pa_cons (pv 0) (pa_cons (pv 1) pa_nil))))
        (pss_cons (ps_set (i := 3) scLaw.nd rfl (.inl rfl) (pe_call GP hr (by rfl) mP kP bP .nil pass0 (pa_cons (pv 2) pa_nil)))
        (pss_cons (ps_set (i := 4) scLaw.nd rfl (.inr rfl) (pe_op op_add pe_int (pe_call GT hr (by rfl) mT kT bT .nil pass0 (pa_cons (pv 2) (pa_cons (pe_ix ix_list (pe_lst (pa_cons pe_int (pa_cons pe_int pa_nil))) (pe_callTy cInt (by rfl) mi (by decide +kernel) (pa_cons (pe_cmpR op_eq (pe_call GT hr (by rfl) mT kT bT .nil pass0 (pa_cons (pv 2) (pa_cons pe_int pa_nil))) pe_int (nomark _)) pa_nil)) (fun _ _ => rfl)) pa_nil)))))
        (pss_cons (ps_set (i := 5) scLaw.nd rfl (.inl rfl) (pe_call GF hr (by rfl) mF kF bF .nil pass0 (pa_cons (pv 3) (pa_cons (pe_call GR hr (by rfl) mR kR bR .nil pass0 (pa_cons (pv 3) (pa_cons (pv 4) (pa_cons (pe_call GT hr (by rfl) mT kT bT .nil pass0 (pa_cons (pv 2) (pa_cons pe_int pa_nil))) (pa_cons (pv 2) pa_nil))))) pa_nil))))
        (pss_cons (ps_set (i := 6) scLaw.nd rfl (.inl rfl) (pe_lst (pa_cons (pv 5) (pa_cons (pe_lst (pa_cons (pe_op op_rep (pe_lst (pa_cons pe_int pa_nil)) (pv 4)) pa_nil)) (pa_cons (pe_lst (pa_cons (pe_lst pa_nil) pa_nil)) (pa_cons (pe_lst (pa_cons (pe_op op_rep (pe_lst (pa_cons pe_int pa_nil)) pe_int) pa_nil)) (pa_cons (pe_lst (pa_cons (pe_op op_cat (pe_lst (pa_cons pe_int pa_nil)) (pe_op op_rep (pe_lst (pa_cons pe_int pa_nil)) pe_int)) pa_nil)) (pa_cons (pe_lst (pa_cons (pe_lst (pa_cons pe_int pa_nil)) pa_nil)) (pa_cons (pe_lst (pa_cons pe_int pa_nil)) (pa_cons (pe_tup pa_nil) pa_nil))))))))))
        (pss_cons (ps_set (i := 6) scLaw.nd rfl (.inl rfl) (pe_op op_cat (pv 6) (pe_lst (pa_cons pe_non (pa_cons pe_bl (pa_cons pe_str (pa_cons pe_int (pa_cons (pv 3) (pa_cons (pe_lst (pa_cons pe_non pa_nil)) pa_nil)))))))))
        (pss_cons (ps_for PassesOwn.never rfl (pi_range1 rfl mr (pa_cons pe_int pa_nil)) (pg_name (i := 7) scLaw.nd rfl (Or.inl rfl)) (pss_one (ps_if (pt_cmpR op_gt (pe_callB call_len_seq (by rfl) ml PySem.boot_len (pa_cons (pv 5) pa_nil)) pe_int (nomark _)) (pss_one (ps_expr (pe_bm PySem.F.plainAttrs_list PySem.F.slot_list_append PySem.F.type_list_append mt_append (pv 6) (pa_cons (pe_call GS hr (by rfl) mS kS bS .nil pass0 (pa_cons (pv 3) (pa_cons (pv 5) (pa_cons (pv 2) pa_nil)))) pa_nil)))) pss_nil)))
        (C8.pss_cut (ps_if (pt_cmpR op_eq (pv 1) pe_int (nomark _)) (pss_cons (ps_setLc (i := 8) (own := [("_law_i", 13)]) (g := gName 13) (tt := tYes) (by rfl) scLaw.nd rfl rfl (sw_true rfl rfl rfl (by decide +kernel)) (pi_range1 rfl mr (pa_cons (pv 4) pa_nil)) (blkOk_by (own := [("_law_i", 13)]) (N := nLaw) (sc := defScope sLaw) (by decide +kernel))
          (fun _ _ _ _ _ => pg_name (i := 13) scLaw.nd rfl (Or.inr rfl)) (fun _ _ _ _ _ => pts_nil)
          (fun _ _ _ _ _ => pe_lc (own := [("_law_j", 14)]) (g := gName 14) (tt := tYes) (by rfl) scLaw.nd (pi_range1 rfl mr (pa_cons (pv 4) pa_nil)) (blkOk_by (own := [("_law_j", 14)]) (N := nLaw) (sc := relS (lcScope (stE (stN lawIf 0))) (defScope sLaw)) (by decide +kernel))
            (fun _ _ _ _ _ => pg_name (i := 14) scLaw.nd rfl (Or.inl rfl)) (fun _ _ _ _ _ => pts_nil) (fun _ _ _ _ _ => pe_callTy cInt (by rfl) mi (by decide +kernel) (pa_cons (pe_cmpR op_eq (pv 13) (pv 14) (nomark _)) pa_nil))))
        (pss_one (ps_set (i := 6) scLaw.nd rfl (.inl rfl) (pe_op op_cat (pv 6) (pe_lst (pa_cons (pv 8) (pa_cons (pe_call GS hr (by rfl) mS kS bS .nil pass0 (pa_cons (pv 3) (pa_cons (pv 8) (pa_cons (pv 2) pa_nil)))) pa_nil))))))) pss_nil) (pss_one (ps_for PassesOwn.never rfl (pi_list (pv 6)) (pg_name (i := 9) scLaw.nd rfl (Or.inl rfl)) (pss_cons (ps_par (i := 10) (j := 11) (by rfl) scLaw.nd rfl rfl (by decide) rfl rfl (pa_cons (pe_call GD hr (by rfl) mD kD bD .nil pass0 (pa_cons (pv 3) (pa_cons (pv 9) pa_nil))) (pa_cons (pe_callTy (cStrD rfl hu) (by rfl) ms (by decide +kernel) (pa_cons (pv 9) pa_nil)) pa_nil)) (by rfl))
        (pss_cons (ps_set (i := 12) scLaw.nd rfl (.inl rfl) (pe_call GI hr (by rfl) mI kI bI .nil pass0 (pa_cons (pv 3) (pa_cons (pv 9) pa_nil))))
        (pss_one (ps_if (PW.pt (pw_or (pt_not (pt_val (pe_callB call_isi (by rfl) mz (by decide +kernel) (pa_cons (pv 12) (pa_cons (pe_bltn (v := .ty "bool") (by rfl) mb (by decide +kernel) rfl) pa_nil))))) (pw_or (pt_cmpR op_ne (pv 12) (pv 10) (nomark _)) (pw_or1 (pt_cmpR op_ne (pe_callTy (cStrD rfl hu) (by rfl) ms (by decide +kernel) (pa_cons (pv 9) pa_nil)) (pv 11) (nomark _)))))) (pss_one (ps_ret pe_bl)) pss_nil)))))))))))))))
      (pss_one (ps_ret pe_bl)), ?_⟩
  refine ⟨_, rfl, a, _, rfl, .inl hS, _, _, rfl, _, _, rfl, ?_⟩
  have bb := top_bound ((iv ns).length : Int) (by omega) 8 (by decide)
  generalize (if (if (8 : Int) < ((iv ns).length : Int) then 8 else ((iv ns).length : Int)) > 3 then (if (8 : Int) < ((iv ns).length : Int) then 8 else ((iv ns).length : Int)) else 3) = top at *
  refine ⟨top, rfl, by omega, by omega, ?_⟩
  refine for_range (lo := 0) (n := top.toNat) (fun i σ H' => ∃ y1 y2 y3 y4 y5 y6 y7 y8 y9 y10 y11 y12 y13 y14, σ = [some (.ref a), y1, y2, y3, y4, y5, y6, y7, y8, y9, y10, y11, y12, y13, y14] ∧ Grown T H H') ⟨none, none, none, none, none, none, none, none, none, none, none, none, none, none, rfl, Grown.of htab (Same.refl H)⟩ (fun i σ H0 hi hW => ?_) (fun σ H' hW => ?_)
  · obtain ⟨y1, y2, y3, y4, y5, y6, y7, y8, y9, y10, y11, y12, y13, y14, rfl, g0⟩ := hW
    have iz : (0 : Int) + (i : Int) = (i : Int) := Int.zero_add _
    rw [iz]
    refine ⟨_, rfl, _, rfl, ⟨a, ns, i, rfl, g0.seq htab hS, by omega, fun b H1 nb s1 bag1 => ?_⟩⟩
    refine ⟨_, rfl, ⟨b, 1001, rfl, bag1, by decide, fun p H2 hp off2 bag2 => ?_⟩⟩
    have two := hp.two
    have le := hp.le
    have hv := inv_is hp
    have gro : ∀ {H'}, Off b H1 H' → Grown T H H' := fun {H'} o => by
      obtain ⟨ps, e, ok⟩ := g0.tab
      have nT : T ≠ b := ne_of_none e nb
      exact g0.trans ⟨fun q u _ z => o q u (ne_of_none z nb) (s1 q u z), ⟨ps, o _ _ nT (s1 _ _ e), ok⟩⟩
    -- how long
    refine ⟨_, rfl, (by show 2 ≤ sizeLine; decide), fun u nu => ?_⟩
    have su : Same H2 (L2.upd H2 u (.lst [.int 8, .int 36])) := same_new nu
    have hu1 : (L2.upd H2 u (.lst [.int 8, .int 36])) u = some (.lst [.int 8, .int 36]) := upd_same
    have bag3 := bgk bag2 su
    have off3 := off2.trans (Off.of su)
    have nub : u ≠ b := bag2.ne nu
    generalize L2.upd H2 u (.lst [.int 8, .int 36]) = H3 at *
    refine ⟨_, rfl, ⟨b, 8, _, rfl, by decide, by decide, bag3, by decide, fun d1 H4 a1 b1 off4 _ bag4 => ?_⟩⟩
    refine ⟨rfl, _, rfl, ?_⟩
    generalize decide (V.int d1 = V.int 7) = kx
    have hat : atI [V.int 8, V.int 36] (if kx = true then 1 else 0) = some (V.int (if kx = true then 36 else 8)) := by cases kx <;> rfl
    have hm : (0 : Int) < (if kx = true then 36 else 8) ∧ (if kx = true then (36 : Int) else 8) ≤ 36 := by cases kx <;> decide
    generalize (if kx = true then (36 : Int) else 8) = mm at *
    refine ⟨u, _, _, _, rfl, rfl, SqL.of (off4 _ _ nub hu1), hat, ?_⟩
    refine ⟨b, mm, _, rfl, hm.1, by omega, bag4, by decide, fun d2 H5 a2 b2 off5 _ bag5 => ?_⟩
    refine ⟨_, _, rfl, rfl, ?_⟩
    obtain ⟨D, rfl⟩ := Int.eq_ofNat_of_zero_le a2
    have e1 : (1 : Int) + (D : Int) = ((1 + D : Nat) : Int) := by omega
    dsimp only
    rw [e1]
    obtain ⟨n, hn⟩ : ∃ n, n = 1 + D := ⟨_, rfl⟩
    rw [← hn]
    refine step_name ?_
    have off15 := (off3.trans off4).trans off5
    -- the form
    refine ⟨_, rfl, _, rfl, _, rfl, _, rfl, ⟨b, 7, _, rfl, by decide, by decide, bag5, by decide, fun d3 H6 a3 b3 off6 _ bag6 => ?_⟩⟩
    obtain ⟨many, rfl⟩ := Int.eq_ofNat_of_zero_le a3
    have cost : many * (2 * n + 5) ≤ 6 * 77 := Nat.mul_le_mul (by omega) (by omega)
    refine ⟨_, rfl, ⟨p, n, many, b, _, rfl, by omega, le, by omega, by omega, bag6, by decide, fun r rs M H7 wM lM off7 nr tM fr7 bag7 => ?_⟩⟩
    refine ⟨p, n, r, rs, M, rfl, hp, by omega, tM, wM, by omega, fun H8 fa fs s8 nf tF fF => ?_⟩
    obtain ⟨ls, L, _, _⟩ := lowM_ok (n := n) two hv wM
    generalize lowM p (invM p) M = Fm at *
    have few := low_few L
    have bag8 : Bg H8 b 2000 := (bgk bag7 s8).mono (by omega)
    have off18 := ((off15.trans off6).trans off7).trans (Off.of s8)
    have nfab : fa ≠ b := bag7.ne nf
    have nfr : ∀ r ∈ fs, r ≠ b := fun r hr => bag7.ne (fF r hr)
    have wF : Wfs p n Fm := L.wf
    have tform : Th [b] H8 (.ref fa) := th_tab tF wF hp (by omega) (nb1 nfab) (fun r hr => nb1 (nfr r hr)) (by omega)
    have sZ : Same H8 H8 := Same.refl H8
    have bagZ := bag8
    refine ⟨_, rfl, (by show 1 ≤ sizeLine; decide), fun u1 nu1 => ?_⟩
    have sk9 : Same H8 (L2.upd H8 u1 (.lst [.int 0])) := same_new nu1
    have hu1 : (L2.upd H8 u1 (.lst [.int 0])) u1 = some (.lst [.int 0]) := upd_same
    have nu1b : u1 ∉ [b] := nb1 (bagZ.ne nu1)
    replace tform := tform.same sk9
    replace bagZ := bgk bagZ sk9
    replace sZ := sZ.trans sk9
    generalize L2.upd H8 u1 (.lst [.int 0]) = H9 at *
    refine ⟨_, rfl, u1, (n : Int), _, rfl, rfl, hu1, by omega, by omega, (by rw [Int.toNat_natCast, List.length_singleton, Nat.one_mul]; exact Nat.le_of_lt (small1000 (by omega))), fun u2 nu2 => ?_⟩
    have sk10 : Same H9 (L2.upd H9 u2 (.lst (List.replicate (n : Int).toNat [V.int 0]).flatten)) := same_new nu2
    have hu2 : (L2.upd H9 u2 (.lst (List.replicate (n : Int).toNat [V.int 0]).flatten)) u2 = some (.lst (List.replicate (n : Int).toNat [V.int 0]).flatten) := upd_same
    have nu2b : u2 ∉ [b] := nb1 (bagZ.ne nu2)
    replace tform := tform.same sk10
    replace hu1 := sk10 _ _ hu1
    replace bagZ := bgk bagZ sk10
    replace sZ := sZ.trans sk10
    generalize L2.upd H9 u2 (.lst (List.replicate (n : Int).toNat [V.int 0]).flatten) = H10 at *
    have iu2 : Is (hid [b] H10) 2 76 (.ref u2) := th_row (p := 2) (r := List.replicate n 0) (hu2.trans (congrArg (fun l => some (HO.lst l)) (rep_ints n 0))) nu2b (by decide) (rep_rng (by decide)) (by rw [List.length_replicate]; omega)
    refine ⟨(by show 1 ≤ sizeLine; decide), fun u3 nu3 => ?_⟩
    have sk11 : Same H10 (L2.upd H10 u3 (.lst [.ref u2])) := same_new nu3
    have hu3 : (L2.upd H10 u3 (.lst [.ref u2])) u3 = some (.lst [.ref u2]) := upd_same
    have nu3b : u3 ∉ [b] := nb1 (bagZ.ne nu3)
    replace tform := tform.same sk11
    replace iu2 := is_keep iu2 sk11
    replace bagZ := bgk bagZ sk11
    replace sZ := sZ.trans sk11
    generalize L2.upd H10 u3 (.lst [.ref u2]) = H11 at *
    have tu3 : Th [b] H11 (.ref u3) := th_list hu3 nu3b (fun v hv => by rw [List.mem_singleton.mp hv]; exact iu2) (by show 1 ≤ 38; decide)
    refine ⟨Nat.zero_le _, fun u4 nu4 => ?_⟩
    have sk12 : Same H11 (L2.upd H11 u4 (.lst [])) := same_new nu4
    have hu4 : (L2.upd H11 u4 (.lst [])) u4 = some (.lst []) := upd_same
    have nu4b : u4 ∉ [b] := nb1 (bagZ.ne nu4)
    replace tform := tform.same sk12
    replace tu3 := tu3.same sk12
    replace bagZ := bgk bagZ sk12
    replace sZ := sZ.trans sk12
    generalize L2.upd H11 u4 (.lst []) = H12 at *
    have iu4 : Is (hid [b] H12) 2 76 (.ref u4) := th_row (p := 2) (r := []) hu4 nu4b (by decide) (fun x hx => by simp at hx) (by decide)
    refine ⟨(by show 1 ≤ sizeLine; decide), fun u5 nu5 => ?_⟩
    have sk13 : Same H12 (L2.upd H12 u5 (.lst [.ref u4])) := same_new nu5
    have hu5 : (L2.upd H12 u5 (.lst [.ref u4])) u5 = some (.lst [.ref u4]) := upd_same
    have nu5b : u5 ∉ [b] := nb1 (bagZ.ne nu5)
    replace tform := tform.same sk13
    replace tu3 := tu3.same sk13
    replace iu4 := is_keep iu4 sk13
    replace bagZ := bgk bagZ sk13
    replace sZ := sZ.trans sk13
    generalize L2.upd H12 u5 (.lst [.ref u4]) = H13 at *
    have tu5 : Th [b] H13 (.ref u5) := th_list hu5 nu5b (fun v hv => by rw [List.mem_singleton.mp hv]; exact iu4) (by show 1 ≤ 38; decide)
    refine ⟨(by show 1 ≤ sizeLine; decide), fun u6 nu6 => ?_⟩
    have sk14 : Same H13 (L2.upd H13 u6 (.lst [.int 1])) := same_new nu6
    have hu6 : (L2.upd H13 u6 (.lst [.int 1])) u6 = some (.lst [.int 1]) := upd_same
    have nu6b : u6 ∉ [b] := nb1 (bagZ.ne nu6)
    replace tform := tform.same sk14
    replace tu3 := tu3.same sk14
    replace tu5 := tu5.same sk14
    replace bagZ := bgk bagZ sk14
    replace sZ := sZ.trans sk14
    generalize L2.upd H13 u6 (.lst [.int 1]) = H14 at *
    refine ⟨u6, 37, _, rfl, rfl, hu6, by decide, by decide, (by rw [sizeLine_eq]; decide), fun u7 nu7 => ?_⟩
    have sk15 : Same H14 (L2.upd H14 u7 (.lst (List.replicate (37 : Int).toNat [V.int 1]).flatten)) := same_new nu7
    have hu7 : (L2.upd H14 u7 (.lst (List.replicate (37 : Int).toNat [V.int 1]).flatten)) u7 = some (.lst (List.replicate (37 : Int).toNat [V.int 1]).flatten) := upd_same
    have nu7b : u7 ∉ [b] := nb1 (bagZ.ne nu7)
    replace tform := tform.same sk15
    replace tu3 := tu3.same sk15
    replace tu5 := tu5.same sk15
    replace hu6 := sk15 _ _ hu6
    replace bagZ := bgk bagZ sk15
    replace sZ := sZ.trans sk15
    generalize L2.upd H14 u7 (.lst (List.replicate (37 : Int).toNat [V.int 1]).flatten) = H15 at *
    have iu7 : Is (hid [b] H15) 2 76 (.ref u7) := th_row (p := 2) (r := List.replicate 37 1) (hu7.trans (congrArg (fun l => some (HO.lst l)) (rep_ints 37 1))) nu7b (by decide) (rep_rng (by decide)) (by decide)
    refine ⟨(by show 1 ≤ sizeLine; decide), fun u8 nu8 => ?_⟩
    have sk16 : Same H15 (L2.upd H15 u8 (.lst [.ref u7])) := same_new nu8
    have hu8 : (L2.upd H15 u8 (.lst [.ref u7])) u8 = some (.lst [.ref u7]) := upd_same
    have nu8b : u8 ∉ [b] := nb1 (bagZ.ne nu8)
    replace tform := tform.same sk16
    replace tu3 := tu3.same sk16
    replace tu5 := tu5.same sk16
    replace iu7 := is_keep iu7 sk16
    replace bagZ := bgk bagZ sk16
    replace sZ := sZ.trans sk16
    generalize L2.upd H15 u8 (.lst [.ref u7]) = H16 at *
    have tu8 : Th [b] H16 (.ref u8) := th_list hu8 nu8b (fun v hv => by rw [List.mem_singleton.mp hv]; exact iu7) (by show 1 ≤ 38; decide)
    refine ⟨(by show 1 ≤ sizeLine; decide), fun u9 nu9 => ?_⟩
    have sk17 : Same H16 (L2.upd H16 u9 (.lst [.int 1])) := same_new nu9
    have hu9 : (L2.upd H16 u9 (.lst [.int 1])) u9 = some (.lst [.int 1]) := upd_same
    have nu9b : u9 ∉ [b] := nb1 (bagZ.ne nu9)
    replace tform := tform.same sk17
    replace tu3 := tu3.same sk17
    replace tu5 := tu5.same sk17
    replace tu8 := tu8.same sk17
    replace bagZ := bgk bagZ sk17
    replace sZ := sZ.trans sk17
    generalize L2.upd H16 u9 (.lst [.int 1]) = H17 at *
    refine ⟨(by show 1 ≤ sizeLine; decide), fun u10 nu10 => ?_⟩
    have sk18 : Same H17 (L2.upd H17 u10 (.lst [.int 0])) := same_new nu10
    have hu10 : (L2.upd H17 u10 (.lst [.int 0])) u10 = some (.lst [.int 0]) := upd_same
    have nu10b : u10 ∉ [b] := nb1 (bagZ.ne nu10)
    replace tform := tform.same sk18
    replace tu3 := tu3.same sk18
    replace tu5 := tu5.same sk18
    replace tu8 := tu8.same sk18
    replace hu9 := sk18 _ _ hu9
    replace bagZ := bgk bagZ sk18
    replace sZ := sZ.trans sk18
    generalize L2.upd H17 u10 (.lst [.int 0]) = H18 at *
    refine ⟨u10, 36, _, rfl, rfl, hu10, by decide, by decide, (by rw [sizeLine_eq]; decide), fun u11 nu11 => ?_⟩
    have sk19 : Same H18 (L2.upd H18 u11 (.lst (List.replicate (36 : Int).toNat [V.int 0]).flatten)) := same_new nu11
    have hu11 : (L2.upd H18 u11 (.lst (List.replicate (36 : Int).toNat [V.int 0]).flatten)) u11 = some (.lst (List.replicate (36 : Int).toNat [V.int 0]).flatten) := upd_same
    have nu11b : u11 ∉ [b] := nb1 (bagZ.ne nu11)
    replace tform := tform.same sk19
    replace tu3 := tu3.same sk19
    replace tu5 := tu5.same sk19
    replace tu8 := tu8.same sk19
    replace hu9 := sk19 _ _ hu9
    replace hu10 := sk19 _ _ hu10
    replace bagZ := bgk bagZ sk19
    replace sZ := sZ.trans sk19
    generalize L2.upd H18 u11 (.lst (List.replicate (36 : Int).toNat [V.int 0]).flatten) = H19 at *
    refine ⟨u9, u11, _, _, rfl, rfl, hu9, hu11, (by rw [sizeLine_eq]; decide), fun u12 nu12 => ?_⟩
    have sk20 : Same H19 (L2.upd H19 u12 (.lst ([V.int 1] ++ (List.replicate (36 : Int).toNat [V.int 0]).flatten))) := same_new nu12
    have hu12 : (L2.upd H19 u12 (.lst ([V.int 1] ++ (List.replicate (36 : Int).toNat [V.int 0]).flatten))) u12 = some (.lst ([V.int 1] ++ (List.replicate (36 : Int).toNat [V.int 0]).flatten)) := upd_same
    have nu12b : u12 ∉ [b] := nb1 (bagZ.ne nu12)
    replace tform := tform.same sk20
    replace tu3 := tu3.same sk20
    replace tu5 := tu5.same sk20
    replace tu8 := tu8.same sk20
    replace hu9 := sk20 _ _ hu9
    replace hu11 := sk20 _ _ hu11
    replace bagZ := bgk bagZ sk20
    replace sZ := sZ.trans sk20
    generalize L2.upd H19 u12 (.lst ([V.int 1] ++ (List.replicate (36 : Int).toNat [V.int 0]).flatten)) = H20 at *
    have iu12 : Is (hid [b] H20) 2 76 (.ref u12) := th_row (p := 2) (r := 1 :: List.replicate 36 0) (hu12.trans (congrArg (fun l => some (HO.lst ([V.int 1] ++ l))) (rep_ints 36 0))) nu12b (by decide) one_rng (by decide)
    refine ⟨(by show 1 ≤ sizeLine; decide), fun u13 nu13 => ?_⟩
    have sk21 : Same H20 (L2.upd H20 u13 (.lst [.ref u12])) := same_new nu13
    have hu13 : (L2.upd H20 u13 (.lst [.ref u12])) u13 = some (.lst [.ref u12]) := upd_same
    have nu13b : u13 ∉ [b] := nb1 (bagZ.ne nu13)
    replace tform := tform.same sk21
    replace tu3 := tu3.same sk21
    replace tu5 := tu5.same sk21
    replace tu8 := tu8.same sk21
    replace iu12 := is_keep iu12 sk21
    replace bagZ := bgk bagZ sk21
    replace sZ := sZ.trans sk21
    generalize L2.upd H20 u13 (.lst [.ref u12]) = H21 at *
    have tu13 : Th [b] H21 (.ref u13) := th_list hu13 nu13b (fun v hv => by rw [List.mem_singleton.mp hv]; exact iu12) (by show 1 ≤ 38; decide)
    refine ⟨(by show 1 ≤ sizeLine; decide), fun u14 nu14 => ?_⟩
    have sk22 : Same H21 (L2.upd H21 u14 (.lst [.int 1])) := same_new nu14
    have hu14 : (L2.upd H21 u14 (.lst [.int 1])) u14 = some (.lst [.int 1]) := upd_same
    have nu14b : u14 ∉ [b] := nb1 (bagZ.ne nu14)
    replace tform := tform.same sk22
    replace tu3 := tu3.same sk22
    replace tu5 := tu5.same sk22
    replace tu8 := tu8.same sk22
    replace tu13 := tu13.same sk22
    replace bagZ := bgk bagZ sk22
    replace sZ := sZ.trans sk22
    generalize L2.upd H21 u14 (.lst [.int 1]) = H22 at *
    have iu14 : Is (hid [b] H22) 2 76 (.ref u14) := th_row (p := 2) (r := [1]) hu14 nu14b (by decide) (rep_rng (n := 1) (by decide)) (by decide)
    refine ⟨(by show 1 ≤ sizeLine; decide), fun u15 nu15 => ?_⟩
    have sk23 : Same H22 (L2.upd H22 u15 (.lst [.ref u14])) := same_new nu15
    have hu15 : (L2.upd H22 u15 (.lst [.ref u14])) u15 = some (.lst [.ref u14]) := upd_same
    have nu15b : u15 ∉ [b] := nb1 (bagZ.ne nu15)
    replace tform := tform.same sk23
    replace tu3 := tu3.same sk23
    replace tu5 := tu5.same sk23
    replace tu8 := tu8.same sk23
    replace tu13 := tu13.same sk23
    replace iu14 := is_keep iu14 sk23
    replace bagZ := bgk bagZ sk23
    replace sZ := sZ.trans sk23
    generalize L2.upd H22 u15 (.lst [.ref u14]) = H23 at *
    have tu15 : Th [b] H23 (.ref u15) := th_list hu15 nu15b (fun v hv => by rw [List.mem_singleton.mp hv]; exact iu14) (by show 1 ≤ 38; decide)
    refine ⟨(by show 1 ≤ sizeLine; decide), fun u16 nu16 => ?_⟩
    have sk24 : Same H23 (L2.upd H23 u16 (.lst [.int 1])) := same_new nu16
    have hu16 : (L2.upd H23 u16 (.lst [.int 1])) u16 = some (.lst [.int 1]) := upd_same
    have nu16b : u16 ∉ [b] := nb1 (bagZ.ne nu16)
    replace tform := tform.same sk24
    replace tu3 := tu3.same sk24
    replace tu5 := tu5.same sk24
    replace tu8 := tu8.same sk24
    replace tu13 := tu13.same sk24
    replace tu15 := tu15.same sk24
    replace bagZ := bgk bagZ sk24
    replace sZ := sZ.trans sk24
    generalize L2.upd H23 u16 (.lst [.int 1]) = H24 at *
    have tu16 : Th [b] H24 (.ref u16) := th_list hu16 nu16b (fun v hv => by rw [List.mem_singleton.mp hv]; exact is_small (by decide) (by decide)) (by decide)
    refine ⟨Nat.zero_le _, fun u17 nu17 => ?_⟩
    have sk25 : Same H24 (L2.upd H24 u17 (.tup [])) := same_new nu17
    have hu17 : (L2.upd H24 u17 (.tup [])) u17 = some (.tup []) := upd_same
    have nu17b : u17 ∉ [b] := nb1 (bagZ.ne nu17)
    replace tform := tform.same sk25
    replace tu3 := tu3.same sk25
    replace tu5 := tu5.same sk25
    replace tu8 := tu8.same sk25
    replace tu13 := tu13.same sk25
    replace tu15 := tu15.same sk25
    replace tu16 := tu16.same sk25
    replace bagZ := bgk bagZ sk25
    replace sZ := sZ.trans sk25
    generalize L2.upd H24 u17 (.tup []) = H25 at *
    have tu17 : Th [b] H25 (.ref u17) := th_tup hu17 nu17b (fun v hv => by simp at hv) (by decide)
    refine ⟨(by show 8 ≤ sizeLine; decide), fun th1 nth1 => ?_⟩
    have sk26 : Same H25 (L2.upd H25 th1 (.lst [.ref fa, .ref u3, .ref u5, .ref u8, .ref u13, .ref u15, .ref u16, .ref u17])) := same_new nth1
    have hth1 : (L2.upd H25 th1 (.lst [.ref fa, .ref u3, .ref u5, .ref u8, .ref u13, .ref u15, .ref u16, .ref u17])) th1 = some (.lst [.ref fa, .ref u3, .ref u5, .ref u8, .ref u13, .ref u15, .ref u16, .ref u17]) := upd_same
    have nth1b : th1 ∉ [b] := nb1 (bagZ.ne nth1)
    replace tform := tform.same sk26
    replace tu3 := tu3.same sk26
    replace tu5 := tu5.same sk26
    replace tu8 := tu8.same sk26
    replace tu13 := tu13.same sk26
    replace tu15 := tu15.same sk26
    replace tu16 := tu16.same sk26
    replace tu17 := tu17.same sk26
    replace bagZ := bgk bagZ sk26
    replace sZ := sZ.trans sk26
    generalize L2.upd H25 th1 (.lst [.ref fa, .ref u3, .ref u5, .ref u8, .ref u13, .ref u15, .ref u16, .ref u17]) = H26 at *
    refine ⟨_, rfl, _, rfl, (by show 1 ≤ sizeLine; decide), fun u18 nu18 => ?_⟩
    have sk27 : Same H26 (L2.upd H26 u18 (.lst [.non])) := same_new nu18
    have hu18 : (L2.upd H26 u18 (.lst [.non])) u18 = some (.lst [.non]) := upd_same
    have nu18b : u18 ∉ [b] := nb1 (bagZ.ne nu18)
    replace tform := tform.same sk27
    replace tu3 := tu3.same sk27
    replace tu5 := tu5.same sk27
    replace tu8 := tu8.same sk27
    replace tu13 := tu13.same sk27
    replace tu15 := tu15.same sk27
    replace tu16 := tu16.same sk27
    replace tu17 := tu17.same sk27
    replace hth1 := sk27 _ _ hth1
    replace bagZ := bgk bagZ sk27
    replace sZ := sZ.trans sk27
    generalize L2.upd H26 u18 (.lst [.non]) = H27 at *
    have tu18 : Th [b] H27 (.ref u18) := th_list hu18 nu18b (fun v hv => by rw [List.mem_singleton.mp hv]; exact is_non) (by decide)
    refine ⟨(by show 6 ≤ sizeLine; decide), fun u19 nu19 => ?_⟩
    have sk28 : Same H27 (L2.upd H27 u19 (.lst [.non, .bl true, .str "", .int 0, .int p, .ref u18])) := same_new nu19
    have hu19 : (L2.upd H27 u19 (.lst [.non, .bl true, .str "", .int 0, .int p, .ref u18])) u19 = some (.lst [.non, .bl true, .str "", .int 0, .int p, .ref u18]) := upd_same
    have nu19b : u19 ∉ [b] := nb1 (bagZ.ne nu19)
    replace tform := tform.same sk28
    replace tu3 := tu3.same sk28
    replace tu5 := tu5.same sk28
    replace tu8 := tu8.same sk28
    replace tu13 := tu13.same sk28
    replace tu15 := tu15.same sk28
    replace tu16 := tu16.same sk28
    replace tu17 := tu17.same sk28
    replace hth1 := sk28 _ _ hth1
    replace tu18 := tu18.same sk28
    replace bagZ := bgk bagZ sk28
    replace sZ := sZ.trans sk28
    generalize L2.upd H27 u19 (.lst [.non, .bl true, .str "", .int 0, .int p, .ref u18]) = H28 at *
    have hvs : ∀ v ∈ ([.ref fa, .ref u3, .ref u5, .ref u8, .ref u13, .ref u15, .ref u16, .ref u17] ++ [.non, .bl true, .str "", .int 0, .int p, .ref u18] : List V), Th [b] H28 v := fun v hv => by
      simp only [List.cons_append, List.nil_append, List.mem_cons, List.not_mem_nil, or_false] at hv
      rcases hv with rfl | rfl | rfl | rfl | rfl | rfl | rfl | rfl | rfl | rfl | rfl | rfl | rfl | rfl
      · exact tform
      · exact tu3
      · exact tu5
      · exact tu8
      · exact tu13
      · exact tu15
      · exact tu16
      · exact tu17
      · exact th_flat .non sm_none fun ds e => by cases e
      · exact th_flat (.bl true) (sm_bool true) fun ds e => by cases e
      · exact th_flat (.str "") sm_str0 fun ds e => by cases e
      · exact th_flat (.int 0) (sm_small (by decide) (by decide)) fun ds e => by cases e
      · exact th_flat (.int p) (sm_small (by omega) (by omega)) fun ds e => by cases e
      · exact tu18
    clear tform tu3 tu5 tu8 tu13 tu15 tu16 tu17 tu18
    obtain ⟨vs0, hvs0⟩ : ∃ l : List V, l = [.ref fa, .ref u3, .ref u5, .ref u8, .ref u13, .ref u15, .ref u16, .ref u17] ++ [.non, .bl true, .str "", .int 0, .int p, .ref u18] := ⟨_, rfl⟩
    rw [← hvs0] at hvs
    have lvs0 : vs0.length = 14 := by rw [hvs0]; rfl
    refine ⟨th1, u19, _, _, rfl, rfl, hth1, hu19, (by show 14 ≤ sizeLine; decide), fun tz ntz => ?_⟩
    rw [← hvs0]
    have ntzb : tz ≠ b := bagZ.ne ntz
    have sY : Same H28 (L2.upd H28 tz (.lst vs0)) := same_new ntz
    have hvs2 : ∀ v ∈ vs0, Th [tz, b] (L2.upd H28 tz (.lst vs0)) v := fun v hv => (hvs v hv).keep fun q o nq e => ⟨fun z => by
      rcases List.mem_cons.mp z with z | z
      · exact ne_of_none e ntz z
      · exact nq z, sY q o e⟩
    have htz : (L2.upd H28 tz (.lst vs0)) tz = some (.lst vs0) := upd_same
    have ntz8 : H8 tz = none := same_none sZ ntz
    have s8Y := sZ.trans sY
    have bagY := bgk bagZ sY
    generalize L2.upd H28 tz (.lst vs0) = HB at *
    -- three of them spoilt
    refine ⟨3, rfl, by decide, by decide, ?_⟩
    refine for_range (lo := 0) (n := 3) (fun j σ H' => ∃ y7 vs, σ = [some (.ref a), some (.int (i : Int)), some (.ref b), some (.int p), some (.int (n : Int)), some (.ref fa), some (.ref tz), y7, y8, y9, y10, y11, y12, y13, y14] ∧ Off b H8 H' ∧ H' tz = some (.lst vs) ∧ (∀ v ∈ vs, Th [tz, b] H' v) ∧ vs.length ≤ 14 + j ∧ Bg H' b (2000 + 300 * j))
      ⟨_, vs0, rfl, Off.of s8Y, htz, hvs2, by omega, bagY⟩ (fun j σ H' hj hW => ?_) (fun σ H' hW => ?_)
    · obtain ⟨z7, vs, rfl, off, htz, hvs, lvs, bag⟩ := hW
      have hj : j < 3 := hj
      have tF' := tF.off off nfab nfr
      have lF : (rf fs).length = Fm.length := by rw [List.length_map, tF.len]
      refine ⟨_, rfl, fa, _, rfl, .inl (SqL.of tF'.at_), _, _, rfl, rfl, _, rfl, ite2 (fun c => ?_) (fun _ => ?_)⟩
      · have c := of_decide_eq_true c
        rw [lF] at c
        refine ⟨_, rfl, .inl ⟨rfl, _, SqL.of htz⟩, _, rfl, _, rfl, _, rfl, ⟨p, n, fa, b, _, fs, Fm, rfl, hp, by omega, by omega, tF', wF, by omega, by omega, bag, by omega, nfab, nfr, fun H9 v d off9 dv sv fv bag9 => ?_⟩⟩
        have htz9 := off9 _ _ ntzb htz
        refine ⟨tz, _, _, rfl, rfl, htz9, small1000 (by omega), ?_⟩
        refine ⟨_, vs ++ [v], rfl, (off.trans off9).new ntz8, upd_same, fun x hx => ?_, by rw [List.length_append, List.length_singleton]; omega, (bag9.same (upd_ne ntzb.symm)).mono (by omega)⟩
        rcases List.mem_append.mp hx with h | h
        · exact (hvs x h).keep fun q o nq e => ⟨nq, by
            rw [upd_ne fun z => nq (by rw [z]; exact List.mem_cons_self)]
            exact off9 q o (fun z => nq (by rw [z]; exact List.mem_cons_of_mem _ (List.mem_singleton.mpr rfl))) e⟩
        · rw [List.mem_singleton.mp h]
          refine ⟨d, Dh.same (fun q o e => ?_) d v dv, sv.mono (by decide) (by decide), fv⟩
          obtain ⟨e1, e2⟩ := fr_inv e
          have q1 : q ≠ tz := fun z => by rw [z, htz] at e1; cases e1
          have q2 : q ≠ b := bag.ne e1
          rw [hid_at (fun z => by
            rcases List.mem_cons.mp z with z | z
            · exact q1 z
            · exact q2 (List.mem_singleton.mp z)), upd_ne q1]
          exact e2
      · exact ⟨_, vs, rfl, off, htz, hvs, by omega, bag.mono (by omega)⟩
    · obtain ⟨z7, vs, rfl, off, htz, hvs, lvs, bag⟩ := hW
      have tF' := tF.off off nfab nfr
      generalize H' = HC at *
      -- the first cell has the whole besides
      refine ⟨fun σ' H' => ∃ tq vt y8 y13 y14, σ' = [some (.ref a), some (.int (i : Int)), some (.ref b), some (.int p), some (.int (n : Int)), some (.ref fa), some (.ref tq), z7, y8, y9, y10, y11, y12, y13, y14] ∧ Off b H8 H' ∧ H' tq = some (.lst vt) ∧ (∀ v ∈ vt, Th [] H' v), ?_, fun σ' H' hW => ?_⟩
      · refine ⟨_, rfl, rfl, _, rfl, ite2 (fun _ => ?_) (fun _ => ?_)⟩
        · refine ⟨_, rfl, (n : Int), rfl, by omega, by omega, fun wa nwa => ?_⟩
          refine lc_range (lo := 0) (n := _) (fun j H' => ∃ qs, Mt HC wa [] (idM n) j H' qs) ⟨[], Mt.start nwa⟩ (fun j H9 hj hW => ?_) (fun HD hW => ?_)
          · rw [Int.toNat_natCast] at hj
            obtain ⟨qs, mt⟩ := hW
            have jz : (0 : Int) + (j : Int) = (j : Int) := Int.zero_add _
            rw [jz]
            refine ⟨rfl, ?_⟩
            refine t_yes ?_
            refine ⟨_, rfl, (n : Int), rfl, by omega, by omega, fun D hD => ?_⟩
            refine lc_range (lo := 0) (n := _) (fun t H' => Mk H9 D (unitR n j) t H') (Mk.start hD) (fun t H10 ht mk => ?_) (fun H10 mk => ?_)
            · rw [Int.toNat_natCast] at ht
              have tz : (0 : Int) + (t : Int) = (t : Int) := Int.zero_add _
              rw [tz]
              refine ⟨rfl, ?_⟩
              refine t_yes ?_
              refine ⟨_, rfl, _, rfl, rfl, _, rfl, ?_⟩
              have ev : (if decide (V.int (j : Int) = V.int (t : Int)) = true then (1 : Int) else 0) = if j = t then 1 else 0 := by
                by_cases h : j = t
                · rw [if_pos h, if_pos (decide_eq_true (by rw [h]))]
                · rw [if_neg h, if_neg (fun z => h (by have := V.int.inj (of_decide_eq_true z); omega))]
              rw [ev]
              exact mk.step hD (Same.refl _) (unitR_get ht) (by rw [unitR_len]; omega)
            · have fin := mk.done (by rw [unitR_len, Int.toNat_natCast])
              obtain ⟨acc, e1, e2, e3⟩ := mt.step nwa (fun r hr => by simp at hr) mk.same (idM_get hj) fin (.inr hD) (by rw [idM_len]; omega)
              exact ⟨acc, e1, e2, _, e3⟩
          · obtain ⟨qs, mt⟩ := hW
            have tI := mt.tab (by rw [Int.toNat_natCast, idM_len])
            have sD := mt.same
            have nqs : ∀ x ∈ qs, HC x = none := fun x hx => by
              obtain ⟨k, hk⟩ := List.getElem?_of_mem hx
              exact (mt.src k x hk).resolve_left (by simp)
            have nwb : wa ≠ b := bag.ne nwa
            have nqb : ∀ x ∈ qs, x ≠ b := fun x hx => bag.ne (nqs x hx)
            have bagD := bgk bag sD
            have LI := idM_low two (n := n)
            have wI : Wfs p n (idM n) := LI.wf
            have lI := idM_len (n := n)
            clear mt
            have tw : Th [b] HD (.ref wa) := th_tab tI wI hp (by omega) (nb1 nwb) (fun r hr => nb1 (nqb r hr)) (by omega)
            refine ⟨_, rfl, _, rfl, _, rfl, _, rfl, _, rfl, ⟨p, n, wa, b, _, qs, idM n, rfl, hp, by omega, by omega, tI, wI, by omega, by omega, bagD, by omega, nwb, nqb, fun H9 v d off9 dv sv fv bag9 => ?_⟩⟩
            have htz9 := off9 _ _ ntzb (sD _ _ htz)
            refine ⟨(by show 2 ≤ sizeLine; decide), fun e ne => ?_⟩
            have s10 : Same H9 (L2.upd H9 e (.lst [.ref wa, v])) := same_new ne
            have he : (L2.upd H9 e (.lst [.ref wa, v])) e = some (.lst [.ref wa, v]) := upd_same
            have bag10 := bgk bag9 s10
            have htz10 := s10 _ _ htz9
            have offC : Off b HC (L2.upd H9 e (.lst [.ref wa, v])) := ((Off.of sD).trans off9).trans (Off.of s10)
            have offD : Off b HD (L2.upd H9 e (.lst [.ref wa, v])) := off9.trans (Off.of s10)
            generalize L2.upd H9 e (.lst [.ref wa, v]) = H10 at *
            refine ⟨tz, e, _, _, rfl, rfl, htz10, he, (by show vs.length + 2 ≤ sizeLine; exact Nat.le_of_lt (small1000 (by omega))), fun tq ntq => ?_⟩
            have s11 : Same H10 (L2.upd H10 tq (.lst (vs ++ [.ref wa, v]))) := same_new ntq
            refine ⟨tq, vs ++ [.ref wa, v], _, _, _, rfl, (off.trans offC).trans (Off.of s11), upd_same, fun x hx => ?_⟩
            rcases List.mem_append.mp hx with h | h
            · exact (hvs x h).keep fun q o nq z => ⟨by simp, s11 _ _ (offC q o (fun z => nq (by rw [z]; exact List.mem_cons_of_mem _ (List.mem_singleton.mpr rfl))) z)⟩
            · rcases List.mem_cons.mp h with h | h
              · rw [h]
                exact tw.keep fun q o nq z => ⟨by simp, s11 _ _ (offD q o (fun y => nq (List.mem_singleton.mpr y)) z)⟩
              · rw [List.mem_singleton.mp h]
                refine ⟨d, Dh.same (fun q o z => ?_) d v dv, sv.mono (by decide) (by decide), fv⟩
                rw [hid_at (by simp)]
                exact s11 _ _ (s10 _ _ (fr_inv z).2)
        · exact ⟨tz, vs, _, _, _, rfl, off, htz, fun v hv => (hvs v hv).keep fun q o _ z => ⟨by simp, z⟩⟩
      · obtain ⟨tq, vt, y8, y13, y14, rfl, offE, htq, hvt⟩ := hW
        have gE := gro (off18.trans offE)
        have tE := gE.tab
        generalize H' = HE at *
        refine ⟨_, rfl, tq, rfl, ⟨_, SqL.of htq⟩, ?_⟩
        refine for_list (K := K) (a := tq) (xs := vt) (fun j σ H' => ∃ y9 y10 y11 y12, σ = [some (.ref a), some (.int (i : Int)), some (.ref b), some (.int p), some (.int (n : Int)), some (.ref fa), some (.ref tq), z7, y8, y9, y10, y11, y12, y13, y14] ∧ Grown T HE H') ⟨_, _, _, _, rfl, Grown.of tE (Same.refl HE)⟩ (fun j σ H' _ hW => ?_) (fun j x σ H' hx hW => ?_) (fun σ H' hW => ?_)
        · obtain ⟨_, _, _, _, _, g⟩ := hW
          exact g.seq tE (SqL.of htq)
        · obtain ⟨w9, w10, w11, w12, rfl, g⟩ := hW
          obtain ⟨d, dh, gd, fd⟩ := (hvt x (List.mem_of_getElem? hx)).dh
          have dx := Dh.grown g tE dh
          refine ⟨_, rfl, _, rfl, ⟨p, x, d, rfl, hp, dx, fd, fun H9 s9 => ?_⟩⟩
          have dx9 := Dh.same s9 d x dx
          refine ⟨_, rfl, x, d, rfl, dx9, gd, ?_⟩
          refine ⟨_, _, rfl, ?_⟩
          have g9 := g.trans (Grown.of g.tab s9)
          refine ⟨_, rfl, _, rfl, ⟨p, x, d, rfl, dx9, fd, gd.bulk, g9.tab, fun H10 g10 => ?_⟩⟩
          have dx10 := Dh.grown g10 g9.tab dx9
          refine ⟨_, rfl, _, _, _, _, true, rfl, .ty "bool", .base (.bl _), kit_ty (by decide +kernel), true, rfl, iteF ?_⟩
          refine ⟨_, rfl, _, rfl, rfl, false, ?_, iteF ?_⟩
          · show V.bl (!decide (V.bl (lowB p d) = V.bl (lowB p d))) = _
            rw [decide_eq_true rfl]
            rfl
          refine ⟨_, rfl, x, d, rfl, dx10, gd, _, rfl, rfl, false, ?_, iteF ?_⟩
          · show V.bl (!decide (V.str (strT d) = V.str (strT d))) = _
            rw [decide_eq_true rfl]
            rfl
          exact ⟨_, _, _, _, rfl, g9.trans g10⟩
        · obtain ⟨w9, w10, w11, w12, rfl, g⟩ := hW
          exact ⟨_, _, _, _, _, _, _, _, _, _, _, _, _, _, rfl, gE.trans g⟩
  · rfl
end

theorem all_mk {l : PySem.W.OpenLaw} {w : World} {K : PySem.W.Frag} {h : Heap} {mg : Str → Option Value} {fa f0 f1 f2 f3 f4 f5 f6 f7 f8 f9 f10 f11 f12 f13 f14 f15 f16 f17 f18 f19 f20 cT T : Addr} (X : K.In h) (G : h.Ns mainGlobals mg) (hfa : mg "law" = some (.ref fa))
    {od0 an0 od1 an1 od2 an2 od3 an3 od4 an4 od5 an5 od6 an6 od7 an7 od8 an8 od9 an9 od10 an10 od11 an11 od12 an12 od13 an13 od14 an14 od15 an15 od16 an16 od17 an17 od18 an18 od19 an19 od20 an20 : Option Addr} {sl0 sl1 sl2 sl3 sl4 sl5 sl6 sl7 sl8 sl9 sl10 sl11 sl12 sl13 sl14 sl15 sl16 sl17 sl18 sl19 sl20 : Array (Option Value)} {oc0 kV0 dc0 pm0 cd0 ct0 oc1 kV1 dc1 pm1 cd1 ct1 oc2 kV2 dc2 pm2 cd2 ct2 oc3 kV3 dc3 pm3 cd3 ct3 oc4 kV4 dc4 pm4 cd4 ct4 oc5 kV5 dc5 pm5 cd5 ct5 oc6 kV6 dc6 pm6 cd6 ct6 oc7 kV7 dc7 pm7 cd7 ct7 oc8 kV8 dc8 pm8 cd8 ct8 oc9 kV9 dc9 pm9 cd9 ct9 oc10 kV10 dc10 pm10 cd10 ct10 oc11 kV11 dc11 pm11 cd11 ct11 oc12 kV12 dc12 pm12 cd12 ct12 oc13 kV13 dc13 pm13 cd13 ct13 oc14 kV14 dc14 pm14 cd14 ct14 oc15 kV15 dc15 pm15 cd15 ct15 oc16 kV16 dc16 pm16 cd16 ct16 oc17 kV17 dc17 pm17 cd17 ct17 oc18 kV18 dc18 pm18 cd18 ct18 oc19 kV19 dc19 pm19 cd19 ct19 oc20 kV20 dc20 pm20 cd20 ct20 : Value}
    (a0 : PySem.W.nsIn K mainGlobals "is_whole" = some (some (.ref f0))) (l0 : K.lookup f0 = some ⟨oc0, od0, .func (PySem.W.fnOf "is_whole" "is_whole" (defArgs sIwh) (defBody sIwh) (defScope sIwh) .none kV0 dc0 pm0 an0 cd0 ct0), sl0⟩) (c0 : PySem.W.codeIn K cd0 "is_whole" = true) (k0 : PySem.W.keepIn K (.ref f0) = true)
    (a1 : PySem.W.nsIn K mainGlobals "is_below" = some (some (.ref f1))) (l1 : K.lookup f1 = some ⟨oc1, od1, .func (PySem.W.fnOf "is_below" "is_below" (defArgs sIbl) (defBody sIbl) (defScope sIbl) .none kV1 dc1 pm1 an1 cd1 ct1), sl1⟩) (c1 : PySem.W.codeIn K cd1 "is_below" = true) (k1 : PySem.W.keepIn K (.ref f1) = true)
    (a2 : PySem.W.nsIn K mainGlobals "is_rests" = some (some (.ref f2))) (l2 : K.lookup f2 = some ⟨oc2, od2, .func (PySem.W.fnOf "is_rests" "is_rests" (defArgs sRst) (defBody sRst) (defScope sRst) .none kV2 dc2 pm2 an2 cd2 ct2), sl2⟩) (c2 : PySem.W.codeIn K cd2 "is_rests" = true) (k2 : PySem.W.keepIn K (.ref f2) = true)
    (a3 : PySem.W.nsIn K mainGlobals "lead" = some (some (.ref f3))) (l3 : K.lookup f3 = some ⟨oc3, od3, .func (PySem.W.fnOf "lead" "lead" (defArgs sLead) (defBody sLead) (defScope sLead) .none kV3 dc3 pm3 an3 cd3 ct3), sl3⟩) (c3 : PySem.W.codeIn K cd3 "lead" = true) (k3 : PySem.W.keepIn K (.ref f3) = true)
    (a4 : PySem.W.nsIn K mainGlobals "leads_alone" = some (some (.ref f4))) (l4 : K.lookup f4 = some ⟨oc4, od4, .func (PySem.W.fnOf "leads_alone" "leads_alone" (defArgs sAln) (defBody sAln) (defScope sAln) .none kV4 dc4 pm4 an4 cd4 ct4), sl4⟩) (c4 : PySem.W.codeIn K cd4 "leads_alone" = true) (k4 : PySem.W.keepIn K (.ref f4) = true)
    (a5 : PySem.W.nsIn K mainGlobals "is_low" = some (some (.ref f5))) (l5 : K.lookup f5 = some ⟨oc5, od5, .func (PySem.W.fnOf "is_low" "is_low" (defArgs sIsl) (defBody sIsl) (defScope sIsl) .none kV5 dc5 pm5 an5 cd5 ct5), sl5⟩) (c5 : PySem.W.codeIn K cd5 "is_low" = true) (k5 : PySem.W.keepIn K (.ref f5) = true)
    (a6 : PySem.W.nsIn K mainGlobals "_law_cell" = some (some (.ref f6))) (l6 : K.lookup f6 = some ⟨oc6, od6, .func (PySem.W.fnOf "_law_cell" "_law_cell" (defArgs sCell) (defBody sCell) (defScope sCell) .none kV6 dc6 pm6 an6 cd6 ct6), sl6⟩) (c6 : PySem.W.codeIn K cd6 "_law_cell" = true) (k6 : PySem.W.keepIn K (.ref f6) = true)
    (a7 : PySem.W.nsIn K mainGlobals "_law_bag" = some (some (.ref f7))) (l7 : K.lookup f7 = some ⟨oc7, od7, .func (PySem.W.fnOf "_law_bag" "_law_bag" (defArgs sBag) (defBody sBag) (defScope sBag) .none kV7 dc7 pm7 an7 cd7 ct7), sl7⟩) (c7 : PySem.W.codeIn K cd7 "_law_bag" = true) (k7 : PySem.W.keepIn K (.ref f7) = true)
    (a8 : PySem.W.nsIn K mainGlobals "_law_take" = some (some (.ref f8))) (l8 : K.lookup f8 = some ⟨oc8, od8, .func (PySem.W.fnOf "_law_take" "_law_take" (defArgs sTake) (defBody sTake) (defScope sTake) .none kV8 dc8 pm8 an8 cd8 ct8), sl8⟩) (c8 : PySem.W.codeIn K cd8 "_law_take" = true) (k8 : PySem.W.keepIn K (.ref f8) = true)
    (a9 : PySem.W.nsIn K mainGlobals "_law_prime" = some (some (.ref f9))) (l9 : K.lookup f9 = some ⟨oc9, od9, .func (PySem.W.fnOf "_law_prime" "_law_prime" (defArgs sPrime) (defBody sPrime) (defScope sPrime) .none kV9 dc9 pm9 an9 cd9 ct9), sl9⟩) (c9 : PySem.W.codeIn K cd9 "_law_prime" = true) (k9 : PySem.W.keepIn K (.ref f9) = true)
    (a10 : PySem.W.nsIn K mainGlobals "_law_sparse" = some (some (.ref f10))) (l10 : K.lookup f10 = some ⟨oc10, od10, .func (PySem.W.fnOf "_law_sparse" "_law_sparse" (defArgs sSparse) (defBody sSparse) (defScope sSparse) .none kV10 dc10 pm10 an10 cd10 ct10), sl10⟩) (c10 : PySem.W.codeIn K cd10 "_law_sparse" = true) (k10 : PySem.W.keepIn K (.ref f10) = true)
    (a11 : PySem.W.nsIn K mainGlobals "_law_rows" = some (some (.ref f11))) (l11 : K.lookup f11 = some ⟨oc11, od11, .func (PySem.W.fnOf "_law_rows" "_law_rows" (defArgs sRows) (defBody sRows) (defScope sRows) .none kV11 dc11 pm11 an11 cd11 ct11), sl11⟩) (c11 : PySem.W.codeIn K cd11 "_law_rows" = true) (k11 : PySem.W.keepIn K (.ref f11) = true)
    (a12 : PySem.W.nsIn K mainGlobals "_law_back" = some (some (.ref f12))) (l12 : K.lookup f12 = some ⟨oc12, od12, .func (PySem.W.fnOf "_law_back" "_law_back" (defArgs sBack) (defBody sBack) (defScope sBack) .none kV12 dc12 pm12 an12 cd12 ct12), sl12⟩) (c12 : PySem.W.codeIn K cd12 "_law_back" = true) (k12 : PySem.W.keepIn K (.ref f12) = true)
    (a13 : PySem.W.nsIn K mainGlobals "_law_less" = some (some (.ref f13))) (l13 : K.lookup f13 = some ⟨oc13, od13, .func (PySem.W.fnOf "_law_less" "_law_less" (defArgs sLess) (defBody sLess) (defScope sLess) .none kV13 dc13 pm13 an13 cd13 ct13), sl13⟩) (c13 : PySem.W.codeIn K cd13 "_law_less" = true) (k13 : PySem.W.keepIn K (.ref f13) = true)
    (a14 : PySem.W.nsIn K mainGlobals "_law_form" = some (some (.ref f14))) (l14 : K.lookup f14 = some ⟨oc14, od14, .func (PySem.W.fnOf "_law_form" "_law_form" (defArgs sForm) (defBody sForm) (defScope sForm) .none kV14 dc14 pm14 an14 cd14 ct14), sl14⟩) (c14 : PySem.W.codeIn K cd14 "_law_form" = true) (k14 : PySem.W.keepIn K (.ref f14) = true)
    (a15 : PySem.W.nsIn K mainGlobals "_law_whole" = some (some (.ref f15))) (l15 : K.lookup f15 = some ⟨oc15, od15, .func (PySem.W.fnOf "_law_whole" "_law_whole" (defArgs sWhole) (defBody sWhole) (defScope sWhole) .none kV15 dc15 pm15 an15 cd15 ct15), sl15⟩) (c15 : PySem.W.codeIn K cd15 "_law_whole" = true) (k15 : PySem.W.keepIn K (.ref f15) = true)
    (a16 : PySem.W.nsIn K mainGlobals "_law_rows_like" = some (some (.ref f16))) (l16 : K.lookup f16 = some ⟨oc16, od16, .func (PySem.W.fnOf "_law_rows_like" "_law_rows_like" (defArgs sLike) (defBody sLike) (defScope sLike) .none kV16 dc16 pm16 an16 cd16 ct16), sl16⟩) (c16 : PySem.W.codeIn K cd16 "_law_rows_like" = true) (k16 : PySem.W.keepIn K (.ref f16) = true)
    (a17 : PySem.W.nsIn K mainGlobals "_law_due" = some (some (.ref f17))) (l17 : K.lookup f17 = some ⟨oc17, od17, .func (PySem.W.fnOf "_law_due" "_law_due" (defArgs sDue) (defBody sDue) (defScope sDue) .none kV17 dc17 pm17 an17 cd17 ct17), sl17⟩) (c17 : PySem.W.codeIn K cd17 "_law_due" = true) (k17 : PySem.W.keepIn K (.ref f17) = true)
    (a18 : PySem.W.nsIn K mainGlobals "_law_odd" = some (some (.ref f18))) (l18 : K.lookup f18 = some ⟨oc18, od18, .func (PySem.W.fnOf "_law_odd" "_law_odd" (defArgs sOdd) (defBody sOdd) (defScope sOdd) .none kV18 dc18 pm18 an18 cd18 ct18), sl18⟩) (c18 : PySem.W.codeIn K cd18 "_law_odd" = true) (k18 : PySem.W.keepIn K (.ref f18) = true)
    (a19 : PySem.W.nsIn K mainGlobals "_law_spoilt" = some (some (.ref f19))) (l19 : K.lookup f19 = some ⟨oc19, od19, .func (PySem.W.fnOf "_law_spoilt" "_law_spoilt" (defArgs sSpo) (defBody sSpo) (defScope sSpo) .none kV19 dc19 pm19 an19 cd19 ct19), sl19⟩) (c19 : PySem.W.codeIn K cd19 "_law_spoilt" = true) (k19 : PySem.W.keepIn K (.ref f19) = true)
    (a20 : PySem.W.nsIn K mainGlobals "law" = some (some (.ref f20))) (l20 : K.lookup f20 = some ⟨oc20, od20, .func (PySem.W.fnOf "law" "law" (defArgs sLaw) (defBody sLaw) (defScope sLaw) .none kV20 dc20 pm20 an20 cd20 ct20), sl20⟩) (c20 : PySem.W.codeIn K cd20 "law" = true) (k20 : PySem.W.keepIn K (.ref f20) = true)
    {tkN : Tok} {q1 : Value} {q2 : Option Addr} {q3 : Array (Option Value)} {us : Array Value}
    (aN : PySem.W.nsIn K mainGlobals "LONGEST" = some (some (.int 36 tkN)))
    (eC : cd5 = .ref cT)
    (lC : K.lookup cT = some ⟨q1, q2, .fields us, q3⟩)
    (vC : us[11]? = some (.ref T))
    (nT : K.lookup T = none)
    (z_len : PySem.W.nsIn K mainGlobals "len" = some none) (z_range : PySem.W.nsIn K mainGlobals "range" = some none) (z_list : PySem.W.nsIn K mainGlobals "list" = some none) (z_max : PySem.W.nsIn K mainGlobals "max" = some none) (z_min : PySem.W.nsIn K mainGlobals "min" = some none) (z_zip : PySem.W.nsIn K mainGlobals "zip" = some none) (z_abs : PySem.W.nsIn K mainGlobals "abs" = some none) (z_int : PySem.W.nsIn K mainGlobals "int" = some none) (z_isinstance : PySem.W.nsIn K mainGlobals "isinstance" = some none) (z_bool : PySem.W.nsIn K mainGlobals "bool" = some none) (z_all : PySem.W.nsIn K mainGlobals "all" = some none) (z_enumerate : PySem.W.nsIn K mainGlobals "enumerate" = some none) (z_tuple : PySem.W.nsIn K mainGlobals "tuple" = some none) (z_str : PySem.W.nsIn K mainGlobals "str" = some none) :
    ∃ c T : Addr, PySem.W.tabIn K "is_low" = some (c, T) ∧ K.lookup T = none ∧ ∀ base : Heap, K.In base → base.Ns mainGlobals mg → GxR.TabB base mg c T → LwT l.prog w K mg base fa T := by
  have e := hfa.symm.trans (PySem.W.mg_of X G a20)
  cases e
  have F0 := fun_mk (st := sIwh) l0 c0 k0
  have F1 := fun_mk (st := sIbl) l1 c1 k1
  have F2 := fun_mk (st := sRst) l2 c2 k2
  have F3 := fun_mk (st := sLead) l3 c3 k3
  have F4 := fun_mk (st := sAln) l4 c4 k4
  have F5 := fun_mk (st := sIsl) l5 c5 k5
  have F6 := fun_mk (st := sCell) l6 c6 k6
  have F7 := fun_mk (st := sBag) l7 c7 k7
  have F8 := fun_mk (st := sTake) l8 c8 k8
  have F9 := fun_mk (st := sPrime) l9 c9 k9
  have F10 := fun_mk (st := sSparse) l10 c10 k10
  have F11 := fun_mk (st := sRows) l11 c11 k11
  have F12 := fun_mk (st := sBack) l12 c12 k12
  have F13 := fun_mk (st := sLess) l13 c13 k13
  have F14 := fun_mk (st := sForm) l14 c14 k14
  have F15 := fun_mk (st := sWhole) l15 c15 k15
  have F16 := fun_mk (st := sLike) l16 c16 k16
  have F17 := fun_mk (st := sDue) l17 c17 k17
  have F18 := fun_mk (st := sOdd) l18 c18 k18
  have F19 := fun_mk (st := sSpo) l19 c19 k19
  have F20 := fun_mk (st := sLaw) l20 c20 k20
  have b0 := F0.binds (ps := ["thing"]) fun _ _ _ _ _ _ us hl => match us, hl with | [_], _ => rfl
  have b1 := F1.binds (ps := ["bound", "thing"]) fun _ _ _ _ _ _ us hl => match us, hl with | [_, _], _ => rfl
  have b2 := F2.binds (ps := ["p", "thing"]) fun _ _ _ _ _ _ us hl => match us, hl with | [_, _], _ => rfl
  have b3 := F3.binds (ps := ["row"]) fun _ _ _ _ _ _ us hl => match us, hl with | [_], _ => rfl
  have b4 := F4.binds (ps := ["rows", "row"]) fun _ _ _ _ _ _ us hl => match us, hl with | [_, _], _ => rfl
  have b5 := F5.binds (ps := ["p", "thing"]) fun _ _ _ _ _ _ us hl => match us, hl with | [_, _], _ => rfl
  have b6 := F6.binds (ps := ["_law_script", "_law_k"]) fun _ _ _ _ _ _ us hl => match us, hl with | [_, _], _ => rfl
  have b7 := F7.binds (ps := ["_law_script", "_law_at"]) fun _ _ _ _ _ _ us hl => match us, hl with | [_, _], _ => rfl
  have b8 := F8.binds (ps := ["_law_bag_here", "_law_many"]) fun _ _ _ _ _ _ us hl => match us, hl with | [_, _], _ => rfl
  have b9 := F9.binds (ps := ["_law_bag_here"]) fun _ _ _ _ _ _ us hl => match us, hl with | [_], _ => rfl
  have b10 := F10.binds (ps := ["_law_p", "_law_length", "_law_bag_here"]) fun _ _ _ _ _ _ us hl => match us, hl with | [_, _, _], _ => rfl
  have b11 := F11.binds (ps := ["_law_p", "_law_length", "_law_many", "_law_bag_here"]) fun _ _ _ _ _ _ us hl => match us, hl with | [_, _, _, _], _ => rfl
  have b12 := F12.binds (ps := ["_law_p", "_law_rest"]) fun _ _ _ _ _ _ us hl => match us, hl with | [_, _], _ => rfl
  have b13 := F13.binds (ps := ["_law_p", "_law_row", "_law_rest", "_law_other"]) fun _ _ _ _ _ _ us hl => match us, hl with | [_, _, _, _], _ => rfl
  have b14 := F14.binds (ps := ["_law_p", "_law_rows_here"]) fun _ _ _ _ _ _ us hl => match us, hl with | [_, _], _ => rfl
  have b15 := F15.binds (ps := ["_law_thing", "_law_end"]) fun _ _ _ _ _ _ us hl => match us, hl with | [_, _], _ => rfl
  have b16 := F16.binds (ps := ["_law_p", "_law_length", "_law_thing"]) fun _ _ _ _ _ _ us hl => match us, hl with | [_, _, _], _ => rfl
  have b17 := F17.binds (ps := ["_law_p", "_law_thing"]) fun _ _ _ _ _ _ us hl => match us, hl with | [_, _], _ => rfl
  have b18 := F18.binds (ps := ["_law_p", "_law_bag_here"]) fun _ _ _ _ _ _ us hl => match us, hl with | [_, _], _ => rfl
  have b19 := F19.binds (ps := ["_law_p", "_law_form_here", "_law_bag_here"]) fun _ _ _ _ _ _ us hl => match us, hl with | [_, _, _], _ => rfl
  have g0 := PySem.W.mg_of X G a0
  have g1 := PySem.W.mg_of X G a1
  have g2 := PySem.W.mg_of X G a2
  have g3 := PySem.W.mg_of X G a3
  have g4 := PySem.W.mg_of X G a4
  have g5 := PySem.W.mg_of X G a5
  have g6 := PySem.W.mg_of X G a6
  have g7 := PySem.W.mg_of X G a7
  have g8 := PySem.W.mg_of X G a8
  have g9 := PySem.W.mg_of X G a9
  have g10 := PySem.W.mg_of X G a10
  have g11 := PySem.W.mg_of X G a11
  have g12 := PySem.W.mg_of X G a12
  have g13 := PySem.W.mg_of X G a13
  have g14 := PySem.W.mg_of X G a14
  have g15 := PySem.W.mg_of X G a15
  have g16 := PySem.W.mg_of X G a16
  have g17 := PySem.W.mg_of X G a17
  have g18 := PySem.W.mg_of X G a18
  have g19 := PySem.W.mg_of X G a19
  have m_len := PySem.W.mg_none_of X G z_len
  have m_range := PySem.W.mg_none_of X G z_range
  have m_list := PySem.W.mg_none_of X G z_list
  have m_max := PySem.W.mg_none_of X G z_max
  have m_min := PySem.W.mg_none_of X G z_min
  have m_zip := PySem.W.mg_none_of X G z_zip
  have m_abs := PySem.W.mg_none_of X G z_abs
  have m_int := PySem.W.mg_none_of X G z_int
  have m_isinstance := PySem.W.mg_none_of X G z_isinstance
  have m_bool := PySem.W.mg_none_of X G z_bool
  have m_all := PySem.W.mg_none_of X G z_all
  have m_enumerate := PySem.W.mg_none_of X G z_enumerate
  have m_tuple := PySem.W.mg_none_of X G z_tuple
  have m_str := PySem.W.mg_none_of X G z_str
  refine ⟨cT, T, tab_mk a5 l5 eC lC vC, nT, ?_⟩
  intro base _ _ TB
  have G0_3 : FnOk l.prog w K mg base CX0 3 f0 _ _ spIwh := ok_iwh F0  m_isinstance m_int m_bool
  have G1_4 : FnOk l.prog w K mg base CX0 4 f1 _ _ spIbl := ok_ibl F1 G0_3 b0 k0 g0 
  have G2_5 : FnOk l.prog w K mg base CX0 5 f2 _ _ spRst := ok_rst F2 G1_4 b1 k1 g1 m_isinstance m_list m_all
  have G3_5 : FnOk l.prog w K mg base CX0 5 f3 _ _ spLdA := ok_lda F3  m_enumerate
  have G3_3 : FnOk l.prog w K mg base CX0 3 f3 _ _ spLdA := ok_lda F3  m_enumerate
  have G4_4 : FnOk l.prog w K mg base CX0 4 f4 _ _ spAln := ok_aln F4 G3_3 b3 k3 g3 m_len
  have GISL : FnOk l.prog w K mg base CX0 6 f5 _ _ (spIsl T) := ok_isl F5 eC TB G2_5 b2 k2 g2 G3_5 b3 k3 g3 G4_4 b4 k4 g4 m_isinstance m_list m_len m_all (PySem.W.mg_of X G aN)
  have G6_5 : FnOk l.prog w K mg base CX0 5 f6 _ _ (spCell K) := ok_cell F6  m_len
  have G7_6 : FnOk l.prog w K mg base CX0 6 f7 _ _ (spBag K) := ok_bag F7 G6_5 b6 k6 g6 m_abs
  have G8_5 : FnOk l.prog w K mg base CX0 5 f8 _ _ spTake := ok_take F8  
  have G9_6 : FnOk l.prog w K mg base CX0 6 f9 _ _ spPrime := ok_prime F9 G8_5 b8 k8 g8 
  have G8_6 : FnOk l.prog w K mg base CX0 6 f8 _ _ spTake := ok_take F8  
  have G8_4 : FnOk l.prog w K mg base CX0 4 f8 _ _ spTake := ok_take F8  
  have G10_5 : FnOk l.prog w K mg base CX0 5 f10 _ _ spSparse := ok_sparse F10 G8_4 b8 k8 g8 m_range m_int
  have G11_6 : FnOk l.prog w K mg base CX0 6 f11 _ _ spRows := ok_rows F11 G8_5 b8 k8 g8 G10_5 b10 k10 g10 m_range m_len m_zip
  have G12_5 : FnOk l.prog w K mg base CX0 5 f12 _ _ spBack := ok_back F12  m_range
  have G13_5 : FnOk l.prog w K mg base CX0 5 f13 _ _ spLess := ok_less F13  m_zip
  have G14_6 : FnOk l.prog w K mg base CX0 6 f14 _ _ spForm := ok_form F14 G12_5 b12 k12 g12 G13_5 b13 k13 g13 m_len m_range m_list
  have G18_5 : FnOk l.prog w K mg base CX0 5 f18 _ _ spOdd := ok_odd F18 G8_4 b8 k8 g8 
  have G19_6 : FnOk l.prog w K mg base CX0 6 f19 _ _ spSpo := ok_spo F19 G8_5 b8 k8 g8 G10_5 b10 k10 g10 G18_5 b18 k18 g18 m_len m_list m_tuple
  have G15_4 : FnOk l.prog w K mg base CX0 4 f15 _ _ spWhD := ok_whd F15  m_isinstance m_int m_bool
  have G16_5 : FnOk l.prog w K mg base CX0 5 f16 _ _ spLkD := ok_lkd F16 G15_4 b15 k15 g15 m_isinstance m_list m_len m_all
  have G12_4 : FnOk l.prog w K mg base CX0 4 f12 _ _ spBack := ok_back F12  m_range
  have G13_4 : FnOk l.prog w K mg base CX0 4 f13 _ _ spLess := ok_less F13  m_zip
  have G14_5 : FnOk l.prog w K mg base CX0 5 f14 _ _ spForm := ok_form F14 G12_4 b12 k12 g12 G13_4 b13 k13 g13 m_len m_range m_list
  have G17_6 : FnOk l.prog w K mg base CX0 6 f17 _ _ spDuL := ok_duL F17 G16_5 b16 k16 g16 G14_5 b14 k14 g14 m_isinstance m_list m_len
  exact ok_law F20 (fun s v => .of_eq rfl) G7_6 b7 k7 g7 G9_6 b9 k9 g9 G8_6 b8 k8 g8 G11_6 b11 k11 g11 G14_6 b14 k14 g14 G19_6 b19 k19 g19 G17_6 b17 k17 g17 GISL b5 k5 g5 m_len m_range m_max m_min m_int m_isinstance m_bool m_str
end My
open PySem PySem.W PyProof.Rows
set_option maxRecDepth 100000 in
set_option maxHeartbeats 0 in
theorem PySem.Challenge.cw_stillspans_k02_low_known_holds : PySem.Challenge.rw_stillspans_k02_low_known.Holds := by
  w_on; o_law; k_head; (case hw => w_witness2)
  k_fill
  refine My.walkT_at (l := PySem.Challenge.rw_stillspans_k02_low_known) "is_low" rfl rfl (fun w h Y => PySem.W.kIn_of Y) ?told ?F
  case told => decide +kernel
  case F =>
    intro w mg fa h KX G hmg
    refine' My.all_mk KX G hmg ?a0 ?l0 ?c0 ?k0 ?a1 ?l1 ?c1 ?k1 ?a2 ?l2 ?c2 ?k2 ?a3 ?l3 ?c3 ?k3 ?a4 ?l4 ?c4 ?k4 ?a5 ?l5 ?c5 ?k5 ?a6 ?l6 ?c6 ?k6 ?a7 ?l7 ?c7 ?k7 ?a8 ?l8 ?c8 ?k8 ?a9 ?l9 ?c9 ?k9 ?a10 ?l10 ?c10 ?k10 ?a11 ?l11 ?c11 ?k11 ?a12 ?l12 ?c12 ?k12 ?a13 ?l13 ?c13 ?k13 ?a14 ?l14 ?c14 ?k14 ?a15 ?l15 ?c15 ?k15 ?a16 ?l16 ?c16 ?k16 ?a17 ?l17 ?c17 ?k17 ?a18 ?l18 ?c18 ?k18 ?a19 ?l19 ?c19 ?k19 ?a20 ?l20 ?c20 ?k20 ?aN ?eC ?lC ?vC ?nT ?z_len ?z_range ?z_list ?z_max ?z_min ?z_zip ?z_abs ?z_int ?z_isinstance ?z_bool ?z_all ?z_enumerate ?z_tuple ?z_str
    (case a0 => k_is)
    (case l0 => k_is)
    (case c0 => k_is)
    (case k0 => k_is)
    (case a1 => k_is)
    (case l1 => k_is)
    (case c1 => k_is)
    (case k1 => k_is)
    (case a2 => k_is)
    (case l2 => k_is)
    (case c2 => k_is)
    (case k2 => k_is)
    (case a3 => k_is)
    (case l3 => k_is)
    (case c3 => k_is)
    (case k3 => k_is)
    (case a4 => k_is)
    (case l4 => k_is)
    (case c4 => k_is)
    (case k4 => k_is)
    (case a5 => k_is)
    (case l5 => k_is)
    (case c5 => k_is)
    (case k5 => k_is)
    (case a6 => k_is)
    (case l6 => k_is)
    (case c6 => k_is)
    (case k6 => k_is)
    (case a7 => k_is)
    (case l7 => k_is)
    (case c7 => k_is)
    (case k7 => k_is)
    (case a8 => k_is)
    (case l8 => k_is)
    (case c8 => k_is)
    (case k8 => k_is)
    (case a9 => k_is)
    (case l9 => k_is)
    (case c9 => k_is)
    (case k9 => k_is)
    (case a10 => k_is)
    (case l10 => k_is)
    (case c10 => k_is)
    (case k10 => k_is)
    (case a11 => k_is)
    (case l11 => k_is)
    (case c11 => k_is)
    (case k11 => k_is)
    (case a12 => k_is)
    (case l12 => k_is)
    (case c12 => k_is)
    (case k12 => k_is)
    (case a13 => k_is)
    (case l13 => k_is)
    (case c13 => k_is)
    (case k13 => k_is)
    (case a14 => k_is)
    (case l14 => k_is)
    (case c14 => k_is)
    (case k14 => k_is)
    (case a15 => k_is)
    (case l15 => k_is)
    (case c15 => k_is)
    (case k15 => k_is)
    (case a16 => k_is)
    (case l16 => k_is)
    (case c16 => k_is)
    (case k16 => k_is)
    (case a17 => k_is)
    (case l17 => k_is)
    (case c17 => k_is)
    (case k17 => k_is)
    (case a18 => k_is)
    (case l18 => k_is)
    (case c18 => k_is)
    (case k18 => k_is)
    (case a19 => k_is)
    (case l19 => k_is)
    (case c19 => k_is)
    (case k19 => k_is)
    (case a20 => k_is)
    (case l20 => k_is)
    (case c20 => k_is)
    (case k20 => k_is)
    (case aN => k_is)
    (case eC => rfl)
    (case lC => k_is)
    (case vC => rfl)
    (case nT => rfl)
    (case z_len => k_is)
    (case z_range => k_is)
    (case z_list => k_is)
    (case z_max => k_is)
    (case z_min => k_is)
    (case z_zip => k_is)
    (case z_abs => k_is)
    (case z_int => k_is)
    (case z_isinstance => k_is)
    (case z_bool => k_is)
    (case z_all => k_is)
    (case z_enumerate => k_is)
    (case z_tuple => k_is)
    (case z_str => k_is)
