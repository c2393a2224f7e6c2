import PyProof.Rows.All
import Wide.All
import OpenK.AllK
import Wide.FinOn
import HandS.ForMost
import HandS.Walk
import HandS.Wide
import HandS.Flow
import HandS.Codes
import HandS.IsInst
import HandS.Style
import KE.DataAny
import KE.DataCmp
import HandS.RevRange
import HandS.Conv
import HandS.Exc
import HandS.TryOnly
import HandS.ExcOwn
import HandS.ExcIs
import HandS.WordsExc
import HandS.AnyAll
import HandS.GenList
import HandS.EndTab
import HandS.More
import PyProof.ZipIter
import KE.KStar
import HandS.Star
import HandS.Zip
import PySem.Challenge.RW_stillspans_k16_least
set_option Elab.async false
set_option linter.all false
set_option maxRecDepth 100000
/-! Spans of rows by a prime, in plain Lean: low lists, the form, that each span has just one. -/
namespace My
abbrev Row := List Int
def ent (r : Row) (j : Nat) : Int := r.getD j 0
/-- congruent -/
def cg (p a b : Int) : Prop := ∃ k, a = b + p * k
section
variable {p a b c d x y : Int}
theorem cg.refl (p a : Int) : cg p a a := ⟨0, by grind⟩
theorem cg.of_eq (h : a = b) : cg p a b := h ▸ cg.refl p a
theorem cg.symm (h : cg p a b) : cg p b a := by
  obtain ⟨k, h⟩ := h
  exact ⟨-k, by grind⟩
theorem cg.trans (h : cg p a b) (h2 : cg p b c) : cg p a c := by
  obtain ⟨k, h⟩ := h
  obtain ⟨l, h2⟩ := h2
  exact ⟨k + l, by grind⟩
theorem cg.add (h : cg p a b) (h2 : cg p c d) : cg p (a + c) (b + d) := by
  obtain ⟨k, h⟩ := h
  obtain ⟨l, h2⟩ := h2
  exact ⟨k + l, by grind⟩
theorem cg.sub (h : cg p a b) (h2 : cg p c d) : cg p (a - c) (b - d) := by
  obtain ⟨k, h⟩ := h
  obtain ⟨l, h2⟩ := h2
  exact ⟨k - l, by grind⟩
theorem cg.mul (h : cg p a b) (h2 : cg p c d) : cg p (a * c) (b * d) := by
  obtain ⟨k, h⟩ := h
  obtain ⟨l, h2⟩ := h2
  exact ⟨k * d + b * l + p * k * l, by grind⟩
theorem cg.emod (p a : Int) : cg p (a % p) a := ⟨-(a / p), by have := Int.emod_def a p; grind⟩
theorem cg.iff : cg p a b ↔ a % p = b % p := by
  constructor
  · rintro ⟨k, rfl⟩
    exact Int.add_mul_emod_self_left b p k
  · intro h
    exact (cg.emod p a).symm.trans ((cg.of_eq h).trans (cg.emod p b))
theorem cg.eq (h : cg p a b) (ha : 0 ≤ a) (ha' : a < p) (hb : 0 ≤ b) (hb' : b < p) : a = b := by
  have e := cg.iff.mp h
  rw [Int.emod_eq_of_lt ha ha', Int.emod_eq_of_lt hb hb'] at e
  exact e
theorem one_ne (hp : 2 ≤ p) : ¬ cg p 1 0 := fun h => by
  have := h.eq (by omega) (by omega) (by omega) (by omega)
  omega
end
theorem getD_el {α : Type} (l : List α) (d : α) {j : Nat} (h : j < l.length) : l.getD j d = l[j] := by
  rw [List.getD_eq_getElem?_getD, List.getElem?_eq_getElem h]
  rfl
/-- a row of length n of rests -/
structure Wf (p : Int) (n : Nat) (r : Row) : Prop where
  len : r.length = n
  rng : ∀ x ∈ r, 0 ≤ x ∧ x < p
theorem ent_mem {r : Row} {j : Nat} (h : j < r.length) : ent r j ∈ r := by
  unfold ent
  rw [getD_el _ _ h]
  exact List.getElem_mem h
theorem ent_some {r : Row} {j : Nat} (h : j < r.length) : r[j]? = some (ent r j) := by
  unfold ent
  rw [getD_el _ _ h, List.getElem?_eq_getElem h]
theorem Wf.ent {p : Int} {n : Nat} {r : Row} (w : Wf p n r) {j : Nat} (h : j < n) : 0 ≤ ent r j ∧ My.ent r j < p := w.rng _ (ent_mem (w.len ▸ h))
theorem row_ext {p : Int} {n : Nat} {r s : Row} (a : Wf p n r) (b : Wf p n s) (h : ∀ j, j < n → cg p (ent r j) (ent s j)) : r = s := by
  refine List.ext_getElem? fun j => ?_
  by_cases hj : j < n
  · rw [ent_some (a.len ▸ hj), ent_some (b.len ▸ hj), (h j hj).eq (a.ent hj).1 (a.ent hj).2 (b.ent hj).1 (b.ent hj).2]
  · rw [List.getElem?_eq_none (by have := a.len; omega), List.getElem?_eq_none (by have := b.len; omega)]

/-! ### spans -/
def Z (p : Int) (n : Nat) (v : Nat → Int) : Prop := ∀ j, j < n → cg p (v j) 0
/-- in the span of R -/
inductive Spn (p : Int) (n : Nat) (R : List Row) : (Nat → Int) → Prop
  | zero {v} (h : Z p n v) : Spn p n R v
  | add {u v r} (c : Int) (hr : r ∈ R) (hu : Spn p n R u) (h : ∀ j, j < n → cg p (v j) (u j + c * ent r j)) : Spn p n R v
section
variable {p : Int} {n : Nat} {R S : List Row} {u v : Nat → Int}
theorem Spn.cong (h : Spn p n R u) (e : ∀ j, j < n → cg p (v j) (u j)) : Spn p n R v := by
  cases h with
  | zero h => exact .zero fun j hj => (e j hj).trans (h j hj)
  | add c hr hu h => exact .add c hr hu fun j hj => (e j hj).trans (h j hj)
theorem Spn.lin (c : Int) (hu : Spn p n R u) (hv : Spn p n R v) : Spn p n R (fun j => u j + c * v j) := by
  induction hv with
  | zero h =>
    refine hu.cong fun j hj => ?_
    have := (cg.refl p (u j)).add ((cg.refl p c).mul (h j hj))
    exact this.trans (cg.of_eq (by grind))
  | add d hr hw h ih =>
    refine .add (c * d) hr ih fun j hj => ?_
    have := (cg.refl p (u j)).add ((cg.refl p c).mul (h j hj))
    exact this.trans (cg.of_eq (by grind))
theorem Spn.mem {r : Row} (h : r ∈ R) : Spn p n R (ent r) := .add (u := fun _ => 0) 1 h (.zero fun _ _ => cg.refl _ _) fun j _ => cg.of_eq (by grind)
theorem Spn.mono (h : ∀ r ∈ R, Spn p n S (ent r)) (hv : Spn p n R v) : Spn p n S v := by
  induction hv with
  | zero h => exact .zero h
  | add c hr _ e ih => exact (ih.lin c (h _ hr)).cong e
theorem Spn.incl (h : ∀ r ∈ R, r ∈ S) (hv : Spn p n R v) : Spn p n S v := hv.mono fun r hr => .mem (h r hr)
end
/-! ### what the rows of a low list leave of a row -/
def red : List Row → List Nat → (Nat → Int) → Nat → Int
  | r :: F, l :: ls, v => red F ls (fun j => v j - v l * ent r j)
  | _, _, v => v
theorem red_nil (ls : List Nat) (v : Nat → Int) : red [] ls v = v := by
  cases ls <;> rfl
theorem red_lin (c : Int) : ∀ (F : List Row) (ls : List Nat) (u v : Nat → Int) (j : Nat), red F ls (fun j => u j + c * v j) j = red F ls u j + c * red F ls v j
  | [], ls, u, v, j => by rw [red_nil, red_nil, red_nil]
  | r :: F, [], u, v, j => rfl
  | r :: F, l :: ls, u, v, j => by
    have e : (fun j => (u j + c * v j) - (u l + c * v l) * ent r j) = fun j => (u j - u l * ent r j) + c * (v j - v l * ent r j) := by
      funext j
      grind
    show red F ls (fun j => (u j + c * v j) - (u l + c * v l) * ent r j) j = _
    rw [e, red_lin c F ls]
    rfl
/-- each row has 1 at its own lead, 0 at the others' -/
def Dl (p : Int) (F : List Row) (ls : List Nat) : Prop := ls.length = F.length ∧ ∀ (i k : Nat) r l, F[i]? = some r → ls[k]? = some l → ent r l = if i = k then 1 else 0
theorem Dl.tail {p : Int} {r : Row} {F : List Row} {l : Nat} {ls : List Nat} (h : Dl p (r :: F) (l :: ls)) : Dl p F ls := by
  refine ⟨by simpa using h.1, fun i k s m hi hk => ?_⟩
  have := h.2 (i + 1) (k + 1) s m hi hk
  rw [this]
  by_cases e : i = k
  · rw [if_pos e, if_pos (by omega)]
  · rw [if_neg e, if_neg (by omega)]
theorem red_zero {p : Int} {n : Nat} : ∀ {F : List Row} {ls : List Nat} {v : Nat → Int}, (∀ l ∈ ls, l < n) → Z p n v → Z p n (red F ls v)
  | [], ls, v, _, h => by rw [red_nil]; exact h
  | r :: F, [], v, _, h => h
  | r :: F, l :: ls, v, hl, h => by
    refine red_zero (F := F) (ls := ls) (fun m hm => hl m (List.mem_cons_of_mem _ hm)) fun j hj => ?_
    have := (h j hj).sub ((h l (hl l List.mem_cons_self)).mul (cg.refl p (ent r j)))
    exact this.trans (cg.of_eq (by grind))
theorem red_keep {p : Int} {n : Nat} : ∀ {F : List Row} {ls : List Nat} {v : Nat → Int}, (∀ l ∈ ls, l < n) → (∀ l ∈ ls, cg p (v l) 0) → ∀ j, j < n → cg p (red F ls v j) (v j)
  | [], ls, v, _, _, j, _ => by rw [red_nil]; exact cg.refl _ _
  | r :: F, [], v, _, _, j, _ => cg.refl _ _
  | r :: F, l :: ls, v, hn, hl, j, hj => by
    have a : ∀ j, cg p (v j - v l * ent r j) (v j) := fun j => by
      have := (cg.refl p (v j)).sub ((hl l List.mem_cons_self).mul (cg.refl p (ent r j)))
      exact this.trans (cg.of_eq (by grind))
    refine (red_keep (F := F) (ls := ls) (fun m hm => hn m (List.mem_cons_of_mem _ hm)) (fun m hm => ?_) j hj).trans (a j)
    exact (a m).trans (hl m (List.mem_cons_of_mem _ hm))
theorem red_row {p : Int} {n : Nat} : ∀ {F : List Row} {ls : List Nat} {r : Row}, Dl p F ls → (∀ l ∈ ls, l < n) → r ∈ F → Z p n (red F ls (ent r))
  | s :: F, [], r, h, _, _ => by simp [Dl] at h
  | s :: F, l :: ls, r, h, hl, hr => by
    have hl' : ∀ m ∈ ls, m < n := fun m hm => hl m (List.mem_cons_of_mem _ hm)
    rcases List.mem_cons.mp hr with rfl | hr
    · refine red_zero (F := F) (ls := ls) hl' fun j hj => ?_
      have e := h.2 0 0 r l rfl rfl
      rw [if_pos rfl] at e
      rw [e]
      exact cg.of_eq (by grind)
    · obtain ⟨i, hi⟩ := List.getElem?_of_mem hr
      have e := h.2 (i + 1) 0 r l hi rfl
      rw [if_neg (by omega)] at e
      have q := red_row h.tail hl' hr
      show Z p n (red F ls (fun j => ent r j - ent r l * ent s j))
      rw [e]
      have e2 : (fun j => ent r j - 0 * ent s j) = ent r := by
        funext j
        grind
      rw [e2]
      exact q
theorem spn_red {p : Int} {n : Nat} {F : List Row} {ls : List Nat} (h : Dl p F ls) (hl : ∀ l ∈ ls, l < n) {v : Nat → Int} (hv : Spn p n F v) : Z p n (red F ls v) := by
  induction hv with
  | zero h => exact red_zero hl h
  | @add u v r c hr hu e ih =>
    have q := red_row h hl hr
    have e1 : Z p n (red F ls (fun j => u j + c * ent r j)) := fun j hj => by
      rw [red_lin c F ls u (ent r) j]
      have := (ih j hj).add ((cg.refl p c).mul (q j hj))
      exact this.trans (cg.of_eq (by grind))
    have e2 : Z p n (red F ls (fun j => v j + (-1) * (u j + c * ent r j))) := red_zero hl fun j hj => by
      have := (e j hj).add (cg.refl p ((-1) * (u j + c * ent r j)))
      exact this.trans (cg.of_eq (by grind))
    intro j hj
    have a := e2 j hj
    rw [red_lin (-1) F ls v _ j] at a
    have := a.add (e1 j hj)
    exact (cg.of_eq (by grind)).trans this
theorem spn_sub {p : Int} {n : Nat} {R : List Row} : ∀ {F : List Row} {ls : List Nat} {v : Nat → Int}, (∀ r ∈ F, r ∈ R) → Spn p n R (fun j => v j - red F ls v j)
  | [], ls, v, _ => by
    rw [red_nil]
    exact .zero fun j _ => cg.of_eq (by grind)
  | r :: F, [], v, _ => .zero fun j _ => cg.of_eq (by show v j - v j = 0; grind)
  | r :: F, l :: ls, v, h => by
    have q := spn_sub (p := p) (n := n) (R := R) (F := F) (ls := ls) (v := fun j => v j - v l * ent r j) fun s hs => h s (List.mem_cons_of_mem _ hs)
    exact .add (v l) (h r List.mem_cons_self) q fun j _ => cg.of_eq (by
      show v j - red F ls (fun j => v j - v l * ent r j) j = (v j - v l * ent r j - red F ls (fun j => v j - v l * ent r j) j) + v l * ent r j
      grind)
theorem red_lead {p : Int} {n : Nat} : ∀ {F : List Row} {ls : List Nat} {v : Nat → Int} {j : Nat}, (∀ (i : Nat) r l, F[i]? = some r → ls[i]? = some l → ∀ m, m < l → ent r m = 0) → j < n → Z p n (red F ls v) → (∀ i, i < j → cg p (v i) 0) → ¬ cg p (v j) 0 → j ∈ ls
  | [], ls, v, j, _, hj, h, _, h2 => by
    rw [red_nil] at h
    exact absurd (h j hj) h2
  | r :: F, [], v, j, _, hj, h, _, h2 => absurd (h j hj) h2
  | r :: F, l :: ls, v, j, hb, hj, h, h1, h2 => by
    by_cases e : j = l
    · rw [e]
      exact List.mem_cons_self
    · refine List.mem_cons_of_mem _ (red_lead (F := F) (ls := ls) (v := fun j => v j - v l * ent r j) (fun i s m hi hm => hb (i + 1) s m hi hm) hj h (fun i hi => ?_) fun z => h2 ?_)
      · by_cases hl : l < j
        · have := (h1 i hi).sub ((h1 l hl).mul (cg.refl p (ent r i)))
          exact this.trans (cg.of_eq (by grind))
        · have e0 : ent r i = 0 := hb 0 r l rfl rfl i (by omega)
          show cg p (v i - v l * ent r i) 0
          rw [e0]
          exact (cg.of_eq (by grind)).trans (h1 i hi)
      · by_cases hl : l < j
        · have := (cg.refl p (v j)).sub ((h1 l hl).mul (cg.refl p (ent r j)))
          have q : cg p (v j - v l * ent r j) (v j) := this.trans (cg.of_eq (by grind))
          exact q.symm.trans z
        · have e0 : ent r j = 0 := hb 0 r l rfl rfl j (by omega)
          have z : cg p (v j - v l * ent r j) 0 := z
          rw [e0] at z
          exact (cg.of_eq (by grind)).trans z
/-! ### low lists -/
structure Low (p : Int) (n : Nat) (F : List Row) (ls : List Nat) : Prop where
  wf : ∀ r ∈ F, Wf p n r
  dl : Dl p F ls
  lt : ∀ l ∈ ls, l < n
  up : ls.Pairwise (· < ·)
  zb : ∀ (i : Nat) r l, F[i]? = some r → ls[i]? = some l → ∀ m, m < l → ent r m = 0
theorem sorted_eq : ∀ {a b : List Nat}, a.Pairwise (· < ·) → b.Pairwise (· < ·) → (∀ x, x ∈ a ↔ x ∈ b) → a = b
  | [], [], _, _, _ => rfl
  | [], y :: b, _, _, h => absurd ((h y).mpr List.mem_cons_self) (by simp)
  | x :: a, [], _, _, h => absurd ((h x).mp List.mem_cons_self) (by simp)
  | x :: a, y :: b, ha, hb, h => by
    have a1 := List.pairwise_cons.mp ha
    have b1 := List.pairwise_cons.mp hb
    have e : x = y := by
      rcases List.mem_cons.mp ((h x).mp List.mem_cons_self) with e | m
      · exact e
      · rcases List.mem_cons.mp ((h y).mpr List.mem_cons_self) with e | m2
        · exact e.symm
        · have := b1.1 x m
          have := a1.1 y m2
          omega
    subst e
    rw [sorted_eq a1.2 b1.2 fun z => ⟨fun hz => ?_, fun hz => ?_⟩]
    · rcases List.mem_cons.mp ((h z).mp (List.mem_cons_of_mem _ hz)) with e | m
      · subst e
        exact absurd (a1.1 z hz) (Nat.lt_irrefl _)
      · exact m
    · rcases List.mem_cons.mp ((h z).mpr (List.mem_cons_of_mem _ hz)) with e | m
      · subst e
        exact absurd (b1.1 z hz) (Nat.lt_irrefl _)
      · exact m
theorem lead_in {p : Int} {n : Nat} {F G : List Row} {ls ms : List Nat} (hp : 2 ≤ p) (hF : Low p n F ls) (hG : Low p n G ms) (h : ∀ r ∈ F, Spn p n G (ent r)) : ∀ l ∈ ls, l ∈ ms := by
  intro l hl
  obtain ⟨i, hi⟩ := List.getElem?_of_mem hl
  have hi' : i < F.length := by
    have := (List.getElem?_eq_some_iff.mp hi).1
    rw [hF.dl.1] at this
    exact this
  have hr : F[i]? = some F[i] := List.getElem?_eq_getElem hi'
  have q := spn_red hG.dl hG.lt (h _ (List.getElem_mem hi'))
  refine red_lead hG.zb (hF.lt l hl) q (fun j hj => cg.of_eq (hF.zb i _ l hr hi j hj)) ?_
  rw [hF.dl.2 i i _ l hr hi, if_pos rfl]
  exact one_ne hp
theorem low_unique {p : Int} {n : Nat} {F G : List Row} {ls ms : List Nat} (hp : 2 ≤ p) (hF : Low p n F ls) (hG : Low p n G ms) (h1 : ∀ r ∈ F, Spn p n G (ent r)) (h2 : ∀ r ∈ G, Spn p n F (ent r)) : F = G := by
  have e : ls = ms := sorted_eq hF.up hG.up fun l => ⟨lead_in hp hF hG h1 l, lead_in hp hG hF h2 l⟩
  subst e
  have len : F.length = G.length := hF.dl.1.symm.trans hG.dl.1
  refine List.ext_getElem len fun i hi hi' => ?_
  refine row_ext (hF.wf _ (List.getElem_mem hi)) (hG.wf _ (List.getElem_mem hi')) fun j hj => ?_
  have s : Spn p n F (fun j => ent F[i] j + (-1) * ent G[i] j) := (Spn.mem (List.getElem_mem hi)).lin (-1) (h2 _ (List.getElem_mem hi'))
  have z := spn_red hF.dl hF.lt s
  have k := red_keep (p := p) (F := F) hF.lt (v := fun j => ent F[i] j + (-1) * ent G[i] j) (fun l hl => by
    obtain ⟨k, hk⟩ := List.getElem?_of_mem hl
    rw [hF.dl.2 i k _ l (List.getElem?_eq_getElem hi) hk, hG.dl.2 i k _ l (List.getElem?_eq_getElem hi') hk]
    exact cg.of_eq (by grind)) j hj
  have q := (k.symm.trans (z j hj)).add (cg.refl p (ent G[i] j))
  exact (cg.of_eq (by grind)).trans (q.trans (cg.of_eq (by grind)))
/-! ### the form -/
def lessR (p : Int) (row : Row) (c : Int) (by_ : Row) : Row := List.zipWith (fun a b => (a - c * b) % p) row by_
def mulR (p c : Int) (row : Row) : Row := row.map fun x => c * x % p
def clearM (p : Int) (pl : Nat) (by_ : Row) (M : List Row) : List Row := M.map fun r => lessR p r (ent r pl) by_
def pick (pl : Nat) (left : List Row) : Option Nat := left.findIdx? fun r => decide (ent r pl ≠ 0)
def stepM (p : Int) (inv : Int → Int) (pl : Nat) (s : List Row × List Row) : List Row × List Row :=
  match pick pl s.2 with
  | none => s
  | some at_ => let r := s.2.getD at_ []; let row := mulR p (inv (ent r pl)) r
    (clearM p pl row s.1 ++ [row], clearM p pl row (s.2.eraseIdx at_))
def runM (p : Int) (inv : Int → Int) (rows : List Row) : Nat → List Row × List Row
  | 0 => ([], rows)
  | k + 1 => stepM p inv k (runM p inv rows k)
def lenM (rows : List Row) : Nat := match rows with | [] => 0 | r :: _ => r.length
def lowM (p : Int) (inv : Int → Int) (rows : List Row) : List Row := (runM p inv rows (lenM rows)).1
/-- what the contrary is for -/
def InvOk (p : Int) (inv : Int → Int) : Prop := ∀ x, 0 < x → x < p → inv x * x % p = 1
section
variable {p : Int} {n : Nat} {inv : Int → Int}
theorem lessR_len {row b : Row} {c : Int} (h : Wf p n row) (h2 : Wf p n b) : (lessR p row c b).length = n := by
  unfold lessR
  rw [List.length_zipWith, h.len, h2.len, Nat.min_self]
theorem lessR_ent {row b : Row} {c : Int} (h : Wf p n row) (h2 : Wf p n b) {j : Nat} (hj : j < n) : ent (lessR p row c b) j = (ent row j - c * ent b j) % p := by
  have a := ent_some (r := lessR p row c b) (j := j) (by rw [lessR_len h h2]; exact hj)
  unfold lessR at a
  rw [List.getElem?_zipWith, ent_some (by rw [h.len]; exact hj), ent_some (by rw [h2.len]; exact hj)] at a
  exact (Option.some.inj a).symm
theorem lessR_wf (hp : 0 < p) {row b : Row} {c : Int} (h : Wf p n row) (h2 : Wf p n b) : Wf p n (lessR p row c b) := by
  refine ⟨lessR_len h h2, fun x hx => ?_⟩
  obtain ⟨j, hj, rfl⟩ := List.getElem_of_mem hx
  have hj' : j < n := by rw [lessR_len h h2] at hj; exact hj
  have e := lessR_ent (c := c) h h2 hj'
  unfold ent at e
  rw [getD_el _ _ hj] at e
  rw [e]
  exact ⟨Int.emod_nonneg _ (by omega), Int.emod_lt_of_pos _ hp⟩
theorem lessR_zero {row b : Row} (h : Wf p n row) (h2 : Wf p n b) : lessR p row 0 b = row := by
  refine List.ext_getElem (by rw [lessR_len h h2, h.len]) fun j hj hj' => ?_
  have hj'' : j < n := by rw [h.len] at hj'; exact hj'
  have e := lessR_ent (c := 0) h h2 hj''
  unfold ent at e
  rw [getD_el _ _ hj, getD_el _ _ hj'] at e
  rw [e]
  have := h.rng _ (List.getElem_mem hj')
  rw [Int.zero_mul, Int.sub_zero]
  exact Int.emod_eq_of_lt this.1 this.2
theorem mulR_wf (hp : 0 < p) {row : Row} {c : Int} (h : Wf p n row) : Wf p n (mulR p c row) := by
  refine ⟨by unfold mulR; rw [List.length_map, h.len], fun x hx => ?_⟩
  obtain ⟨y, _, rfl⟩ := List.mem_map.mp hx
  exact ⟨Int.emod_nonneg _ (by omega), Int.emod_lt_of_pos _ hp⟩
theorem mulR_ent {row : Row} {c : Int} (h : Wf p n row) {j : Nat} (hj : j < n) : ent (mulR p c row) j = c * ent row j % p := by
  have a := ent_some (r := mulR p c row) (j := j) (by unfold mulR; rw [List.length_map, h.len]; exact hj)
  unfold mulR at a
  rw [List.getElem?_map, ent_some (by rw [h.len]; exact hj)] at a
  exact (Option.some.inj a).symm
/-- what holds ahead of the place pl -/
structure Run (p : Int) (n : Nat) (rows : List Row) (pl : Nat) (s : List Row × List Row) (ls : List Nat) : Prop where
  low : Low p n s.1 ls
  lt : ∀ l ∈ ls, l < pl
  wf : ∀ r ∈ s.2, Wf p n r
  zb : ∀ r ∈ s.2, ∀ j, j < pl → ent r j = 0
  to : ∀ r, r ∈ s.1 ∨ r ∈ s.2 → Spn p n rows (ent r)
  of : ∀ r ∈ rows, Spn p n (s.1 ++ s.2) (ent r)
theorem pick_none {pl : Nat} {left : List Row} (h : pick pl left = none) : ∀ r ∈ left, ent r pl = 0 := by
  intro r hr
  have := List.findIdx?_eq_none_iff.mp h r hr
  simpa using this
theorem pick_some {pl at_ : Nat} {left : List Row} (h : pick pl left = some at_) : ∃ hl : at_ < left.length, ent left[at_] pl ≠ 0 ∧ ∀ j (hj : j < at_), ent (left[j]'(by omega)) pl = 0 := by
  obtain ⟨h1, h2, h3⟩ := List.findIdx?_eq_some_iff_getElem.mp h
  refine ⟨h1, by simpa using h2, fun j hj => ?_⟩
  have := h3 j hj
  simpa using this
theorem run_step (hp : 2 ≤ p) (hv : InvOk p inv) {rows : List Row} {pl : Nat} {s : List Row × List Row} {ls : List Nat} (hpl : pl < n) (R : Run p n rows pl s ls) : ∃ ms, Run p n rows (pl + 1) (stepM p inv pl s) ms := by
  unfold stepM
  cases e : pick pl s.2 with
  | none =>
    refine ⟨ls, R.low, fun l hl => Nat.lt_succ_of_lt (R.lt l hl), R.wf, fun r hr j hj => ?_, R.to, R.of⟩
    by_cases ej : j = pl
    · rw [ej]
      exact pick_none e r hr
    · exact R.zb r hr j (by omega)
  | some at_ =>
    obtain ⟨hl, hne, _⟩ := pick_some e
    obtain ⟨form, left⟩ := s
    simp only at *
    have hr0 : left[at_] ∈ left := List.getElem_mem hl
    have e0 : left.getD at_ [] = left[at_] := getD_el _ _ hl
    rw [e0]
    have w0 := R.wf _ hr0
    generalize hr : left[at_] = r at *
    have r0 := w0.ent hpl
    have hi := hv (ent r pl) (by omega) r0.2
    generalize hc : inv (ent r pl) = c at *
    have pp : (0 : Int) < p := by omega
    have wrow : Wf p n (mulR p c r) := mulR_wf pp w0
    generalize hrow : mulR p c r = row at *
    have row1 : ent row pl = 1 := by
      rw [← hrow, mulR_ent w0 hpl]
      exact hi
    have rowz : ∀ j, j < pl → ent row j = 0 := fun j hj => by
      rw [← hrow, mulR_ent w0 (by omega), R.zb r hr0 j hj, Int.mul_zero, Int.zero_emod]
    have rowe : ∀ j, j < n → cg p (ent row j) (c * ent r j) := fun j hj => by
      rw [← hrow, mulR_ent w0 hj]
      exact cg.emod _ _
    have back : ∀ j, j < n → cg p (ent r j) (ent r pl * ent row j) := fun j hj => by
      have a : cg p (ent r pl * ent row j) (ent r pl * (c * ent r j)) := (cg.refl p _).mul (rowe j hj)
      have b : cg p (c * ent r pl * ent r j) (1 * ent r j) := ((cg.emod p _).symm.trans (cg.of_eq hi)).mul (cg.refl p _)
      exact ((a.trans (cg.of_eq (by grind))).trans (b.trans (cg.of_eq (by grind)))).symm
    have er : ∀ s, Wf p n s → ∀ j, j < n → cg p (ent (lessR p s (ent s pl) row) j) (ent s j - ent s pl * ent row j) := fun s hs j hj => by
      rw [lessR_ent hs wrow hj]
      exact cg.emod _ _
    have memE : ∀ s, s ∈ left.eraseIdx at_ → s ∈ left := fun s hs => List.mem_of_mem_eraseIdx hs
    have entz : ∀ s, Wf p n s → ∀ j, j < n → ent s pl * ent row j = 0 → ent (lessR p s (ent s pl) row) j = ent s j := fun s hs j hj h => by
      rw [lessR_ent hs wrow hj, h, Int.sub_zero]
      exact Int.emod_eq_of_lt (hs.ent hj).1 (hs.ent hj).2
    have entpl : ∀ s, Wf p n s → ent (lessR p s (ent s pl) row) pl = 0 := fun s hs => by
      rw [lessR_ent hs wrow hpl, row1, Int.mul_one, Int.sub_self, Int.zero_emod]
    have lenf : (clearM p pl row form).length = form.length := by unfold clearM; rw [List.length_map]
    have getf : ∀ (i : Nat) q, (clearM p pl row form ++ [row])[i]? = some q → (∃ s, form[i]? = some s ∧ q = lessR p s (ent s pl) row) ∨ (i = form.length ∧ q = row) := fun i q hq => by
      by_cases hi : i < form.length
      · rw [List.getElem?_append_left (by rw [lenf]; exact hi)] at hq
        unfold clearM at hq
        rw [List.getElem?_map, List.getElem?_eq_getElem hi] at hq
        exact .inl ⟨form[i], List.getElem?_eq_getElem hi, (Option.some.inj hq).symm⟩
      · have hi2 : i < form.length + 1 := by
          have := (List.getElem?_eq_some_iff.mp hq).1
          rw [List.length_append, lenf] at this
          exact this
        have e : i = form.length := by omega
        rw [List.getElem?_append_right (by rw [lenf]; omega), lenf, e, Nat.sub_self] at hq
        exact .inr ⟨e, (Option.some.inj hq).symm⟩
    have getl : ∀ (i : Nat) l, (ls ++ [pl])[i]? = some l → ls[i]? = some l ∨ (i = form.length ∧ l = pl) := fun i l hq => by
      have len := R.low.dl.1
      simp only at len
      by_cases hi : i < form.length
      · rw [List.getElem?_append_left (by rw [len]; exact hi)] at hq
        exact .inl hq
      · have hi2 : i < form.length + 1 := by
          have := (List.getElem?_eq_some_iff.mp hq).1
          rw [List.length_append, len] at this
          exact this
        have e : i = form.length := by omega
        rw [List.getElem?_append_right (by rw [len]; omega), len, e, Nat.sub_self] at hq
        exact .inr ⟨e, (Option.some.inj hq).symm⟩
    have wff : ∀ s ∈ form, Wf p n s := R.low.wf
    have meml : ∀ {i : Nat} {l}, ls[i]? = some l → i < form.length ∧ l < pl := fun {i l} h => by
      have z := (List.getElem?_eq_some_iff.mp h).1
      have len := R.low.dl.1
      simp only at len
      exact ⟨by omega, R.lt l (List.mem_of_getElem? h)⟩
    refine ⟨ls ++ [pl], ⟨fun q hq => ?_, ⟨?_, fun i k q l hi hk => ?_⟩, fun l hl => ?_, ?_, fun i q l hi hk m hm => ?_⟩, fun l hl => ?_, fun q hq => ?_, fun q hq j hj => ?_, fun q hq => ?_, fun q hq => ?_⟩
    · rcases List.mem_append.mp hq with h | h
      · obtain ⟨s, hs, rfl⟩ := List.mem_map.mp h
        exact lessR_wf pp (wff s hs) wrow
      · rw [List.mem_singleton.mp h]
        exact wrow
    · rw [List.length_append, List.length_append, lenf]
      have len := R.low.dl.1
      simp only at len
      rw [len]
      rfl
    · rcases getf i q hi with ⟨s, hs, rfl⟩ | ⟨ei, rfl⟩
      · have ws := wff s (List.mem_of_getElem? hs)
        have il : i < form.length := (List.getElem?_eq_some_iff.mp hs).1
        rcases getl k l hk with hk | ⟨ek, rfl⟩
        · rw [entz s ws l (by have := meml hk; omega) (by rw [rowz l (meml hk).2, Int.mul_zero])]
          exact R.low.dl.2 i k s l hs hk
        · rw [entpl s ws, if_neg (by omega)]
      · rcases getl k l hk with hk | ⟨ek, rfl⟩
        · rw [rowz l (meml hk).2, if_neg (by have := meml hk; omega)]
        · rw [row1, if_pos (by omega)]
    · rcases List.mem_append.mp hl with h | h
      · exact R.low.lt l h
      · rw [List.mem_singleton.mp h]
        exact hpl
    · exact List.pairwise_append.mpr ⟨R.low.up, List.pairwise_singleton _ _, fun a ha b hb => by rw [List.mem_singleton.mp hb]; exact R.lt a ha⟩
    · rcases getf i q hi with ⟨s, hs, rfl⟩ | ⟨ei, rfl⟩
      · have ws := wff s (List.mem_of_getElem? hs)
        have il : i < form.length := (List.getElem?_eq_some_iff.mp hs).1
        rcases getl i l hk with hk | ⟨ek, rfl⟩
        · have lp := (meml hk).2
          rw [entz s ws m (by omega) (by rw [rowz m (by omega), Int.mul_zero])]
          exact R.low.zb i s l hs hk m hm
        · omega
      · rcases getl i l hk with hk | ⟨ek, rfl⟩
        · have := (meml hk).1
          omega
        · exact rowz m hm
    · rcases List.mem_append.mp hl with h | h
      · exact Nat.lt_succ_of_lt (R.lt l h)
      · rw [List.mem_singleton.mp h]
        exact Nat.lt_succ_self _
    · obtain ⟨s, hs, rfl⟩ := List.mem_map.mp hq
      exact lessR_wf pp (R.wf s (memE s hs)) wrow
    · obtain ⟨s, hs, rfl⟩ := List.mem_map.mp hq
      have ws := R.wf s (memE s hs)
      by_cases ej : j = pl
      · rw [ej]
        exact entpl s ws
      · rw [entz s ws j (by omega) (by rw [rowz j (by omega), Int.mul_zero])]
        exact R.zb s (memE s hs) j (by omega)
    · have srow : Spn p n rows (ent row) := by
        have z : Spn p n rows (fun j => (fun _ => (0 : Int)) j + c * ent r j) := (Spn.zero fun _ _ => cg.refl _ _).lin c (R.to r (.inr hr0))
        exact z.cong fun j hj => (rowe j hj).trans (cg.of_eq (by grind))
      have sl : ∀ s, Wf p n s → Spn p n rows (ent s) → Spn p n rows (ent (lessR p s (ent s pl) row)) := fun s ws hs =>
        (hs.lin (-(ent s pl)) srow).cong fun j hj => (er s ws j hj).trans (cg.of_eq (by grind))
      rcases hq with h | h
      · rcases List.mem_append.mp h with h | h
        · obtain ⟨s, hs, rfl⟩ := List.mem_map.mp h
          exact sl s (wff s hs) (R.to s (.inl hs))
        · rw [List.mem_singleton.mp h]
          exact srow
      · obtain ⟨s, hs, rfl⟩ := List.mem_map.mp h
        exact sl s (R.wf s (memE s hs)) (R.to s (.inr (memE s hs)))
    · refine Spn.mono (fun s hs => ?_) (R.of q hq)
      have mrow : Spn p n (clearM p pl row form ++ [row] ++ clearM p pl row (left.eraseIdx at_)) (ent row) := Spn.mem (by simp)
      have sl : ∀ s, Wf p n s → lessR p s (ent s pl) row ∈ clearM p pl row form ++ [row] ++ clearM p pl row (left.eraseIdx at_) → Spn p n (clearM p pl row form ++ [row] ++ clearM p pl row (left.eraseIdx at_)) (ent s) := fun s ws hs =>
        ((Spn.mem hs).lin (ent s pl) mrow).cong fun j hj => by
          have := (er s ws j hj).symm.add (cg.refl p (ent s pl * ent row j))
          exact (cg.of_eq (by grind)).trans this
      rcases List.mem_append.mp hs with h | h
      · exact sl s (wff s h) (List.mem_append_left _ (List.mem_append_left _ (List.mem_map.mpr ⟨s, h, rfl⟩)))
      · obtain ⟨k, hk, rfl⟩ := List.getElem_of_mem h
        by_cases ek : k = at_
        · subst ek
          rw [hr]
          have z : Spn p n (clearM p pl row form ++ [row] ++ clearM p pl row (left.eraseIdx k)) (fun j => (fun _ => (0 : Int)) j + ent r pl * ent row j) := (Spn.zero fun _ _ => cg.refl _ _).lin _ mrow
          exact z.cong fun j hj => (back j hj).trans (cg.of_eq (by grind))
        · have hm : left[k] ∈ left.eraseIdx at_ := List.mem_eraseIdx_iff_getElem.mpr ⟨k, hk, ek, rfl⟩
          exact sl _ (R.wf _ h) (List.mem_append_right _ (List.mem_map.mpr ⟨_, hm, rfl⟩))
theorem run_all (hp : 2 ≤ p) (hv : InvOk p inv) {rows : List Row} (w : ∀ r ∈ rows, Wf p n r) : ∀ k, k ≤ n → ∃ ls, Run p n rows k (runM p inv rows k) ls
  | 0, _ => ⟨[], ⟨fun r hr => by simp [runM] at hr, ⟨rfl, fun i k r l hi _ => by simp [runM] at hi⟩, fun l hl => by simp at hl, List.Pairwise.nil, fun i r l hi _ => by simp [runM] at hi⟩, fun l hl => by simp at hl, w, fun r _ j hj => absurd hj (Nat.not_lt_zero _),
      fun r hr => .mem (by simpa [runM] using hr), fun r hr => .mem (by simpa [runM] using hr)⟩
  | k + 1, h => by
    obtain ⟨ls, R⟩ := run_all hp hv w k (by omega)
    exact run_step hp hv (by omega) R
theorem runM_nil : ∀ k, runM p inv [] k = ([], [])
  | 0 => rfl
  | k + 1 => by
    show stepM p inv k (runM p inv [] k) = _
    rw [runM_nil k]
    rfl
theorem lowM_len (rows : List Row) (w : ∀ r ∈ rows, Wf p n r) : lowM p inv rows = (runM p inv rows n).1 := by
  cases rows with
  | nil => unfold lowM; rw [runM_nil, runM_nil]
  | cons r R =>
    unfold lowM
    rw [show lenM (r :: R) = n from (w r List.mem_cons_self).len]
theorem lowM_ok (hp : 2 ≤ p) (hv : InvOk p inv) {rows : List Row} (w : ∀ r ∈ rows, Wf p n r) : ∃ ls, Low p n (lowM p inv rows) ls ∧ (∀ r ∈ lowM p inv rows, Spn p n rows (ent r)) ∧ ∀ r ∈ rows, Spn p n (lowM p inv rows) (ent r) := by
  obtain ⟨ls, R⟩ := run_all hp hv w n (Nat.le_refl _)
  rw [lowM_len rows w]
  refine ⟨ls, R.low, fun r hr => R.to r (.inl hr), fun r hr => ?_⟩
  refine (R.of r hr).mono fun s hs => ?_
  rcases List.mem_append.mp hs with h | h
  · exact .mem h
  · exact .zero fun j hj => cg.of_eq (R.zb s h j hj)
theorem lowM_same (hp : 2 ≤ p) (hv : InvOk p inv) {rows R2 : List Row} (w : ∀ r ∈ rows, Wf p n r) (w2 : ∀ r ∈ R2, Wf p n r) (a : ∀ r ∈ rows, Spn p n R2 (ent r)) (b : ∀ r ∈ R2, Spn p n rows (ent r)) : lowM p inv rows = lowM p inv R2 := by
  obtain ⟨l1, h1, t1, o1⟩ := lowM_ok hp hv w
  obtain ⟨l2, h2, t2, o2⟩ := lowM_ok hp hv w2
  exact low_unique hp h1 h2 (fun r hr => ((t1 r hr).mono a).mono o2) fun r hr => ((t2 r hr).mono b).mono o1
theorem lowM_low (hp : 2 ≤ p) (hv : InvOk p inv) {F : List Row} {ls : List Nat} (h : Low p n F ls) : lowM p inv F = F := by
  obtain ⟨l1, h1, t1, o1⟩ := lowM_ok hp hv h.wf
  exact low_unique hp h1 h t1 o1
theorem lowM_wf (hp : 2 ≤ p) (hv : InvOk p inv) {rows : List Row} (w : ∀ r ∈ rows, Wf p n r) : ∀ r ∈ lowM p inv rows, Wf p n r := by
  obtain ⟨l1, h1, _⟩ := lowM_ok hp hv w
  exact h1.wf
theorem lowM_again (hp : 2 ≤ p) (hv : InvOk p inv) {rows : List Row} (w : ∀ r ∈ rows, Wf p n r) : lowM p inv (lowM p inv rows) = lowM p inv rows := by
  obtain ⟨l1, h1, _⟩ := lowM_ok hp hv w
  exact lowM_low hp hv h1
theorem lowM_rev (hp : 2 ≤ p) (hv : InvOk p inv) {rows : List Row} (w : ∀ r ∈ rows, Wf p n r) : lowM p inv rows.reverse = lowM p inv rows :=
  lowM_same hp hv (fun r hr => w r (List.mem_reverse.mp hr)) w (fun r hr => .mem (List.mem_reverse.mp hr)) fun r hr => .mem (List.mem_reverse.mpr hr)
end
/-! ### the primes -/
def P5 (p : Int) : Prop := p = 2 ∨ p = 3 ∨ p = 5 ∨ p = 7 ∨ p = 11
theorem P5.two {p : Int} (h : P5 p) : 2 ≤ p := by
  rcases h with h | h | h | h | h <;> omega
theorem P5.le {p : Int} (h : P5 p) : p ≤ 11 := by
  rcases h with h | h | h | h | h <;> omega
def invM (p r : Int) : Int := ((List.range 11).map fun (k : Nat) => Int.ofNat k).find? (fun b => b * r % p == 1) |>.getD 0
theorem inv_all : ∀ p ∈ [2, 3, 5, 7, 11], ∀ r ∈ List.range 11, 0 < r → r < p → 0 < invM (p : Nat) (r : Nat) ∧ invM (p : Nat) (r : Nat) < (p : Nat) ∧ ∀ b ∈ List.range 11, b < p → ((b : Int) * (r : Nat) % (p : Nat) = 1 ↔ (b : Int) = invM (p : Nat) (r : Nat)) := by decide +kernel
theorem inv_ok {p r : Int} (hp : P5 p) (h0 : 0 < r) (h1 : r < p) : 0 < invM p r ∧ invM p r < p ∧ ∀ b, 0 ≤ b → b < p → (b * r % p = 1 ↔ b = invM p r) := by
  have two := hp.two
  have le := hp.le
  obtain ⟨P, rfl⟩ := Int.eq_ofNat_of_zero_le (a := p) (by omega)
  obtain ⟨R, rfl⟩ := Int.eq_ofNat_of_zero_le (a := r) (by omega)
  have hP : P ∈ [2, 3, 5, 7, 11] := by
    rcases hp with h | h | h | h | h <;> (have : P = _ := Int.ofNat.inj h; subst this; decide)
  obtain ⟨a, b, c⟩ := inv_all P hP R (List.mem_range.mpr (by omega)) (by omega) (by omega)
  refine ⟨a, b, fun x hx hx' => ?_⟩
  obtain ⟨B, rfl⟩ := Int.eq_ofNat_of_zero_le hx
  exact c B (List.mem_range.mpr (by omega)) (by omega)
theorem inv_is {p : Int} (hp : P5 p) : InvOk p (invM p) := fun x h0 h1 => by
  obtain ⟨a, b, c⟩ := inv_ok hp h0 h1
  exact (c _ (by omega) b).mpr rfl
end My

/-! Mixtures, what is left of a row. -/
namespace My
def dot : List Int → List Row → Nat → Int
  | c :: cs, r :: rows, j => c * ent r j + dot cs rows j
  | _, _, _ => 0
theorem dot_nil (cs : List Int) (j : Nat) : dot cs [] j = 0 := by cases cs <;> rfl
def mixM (p : Int) (cs : List Int) (rows : List Row) (n : Nat) : Row := (List.range n).map fun j => dot cs rows j % p
section
variable {p : Int} {n : Nat}
theorem mixM_len {cs : List Int} {rows : List Row} : (mixM p cs rows n).length = n := by
  unfold mixM
  rw [List.length_map, List.length_range]
theorem mixM_get {cs : List Int} {rows : List Row} {j : Nat} (h : j < n) : (mixM p cs rows n)[j]? = some (dot cs rows j % p) := by
  unfold mixM
  rw [List.getElem?_map, List.getElem?_range h]
  rfl
theorem mixM_ent {cs : List Int} {rows : List Row} {j : Nat} (h : j < n) : ent (mixM p cs rows n) j = dot cs rows j % p := by
  have a := ent_some (r := mixM p cs rows n) (j := j) (by rw [mixM_len]; exact h)
  rw [mixM_get h] at a
  exact (Option.some.inj a).symm
theorem mixM_wf (hp : 0 < p) {cs : List Int} {rows : List Row} : Wf p n (mixM p cs rows n) := by
  refine ⟨mixM_len, fun x hx => ?_⟩
  obtain ⟨j, _, rfl⟩ := List.mem_map.mp hx
  exact ⟨Int.emod_nonneg _ (by omega), Int.emod_lt_of_pos _ hp⟩
theorem zip_sum {j : Nat} : ∀ (cs : List Int) (rows : List Row), (List.zipWith (fun c r => c * ent r j) cs rows).sum = dot cs rows j
  | [], _ => rfl
  | _ :: _, [] => rfl
  | c :: cs, r :: rows => by
    show (c * ent r j :: List.zipWith (fun c r => c * ent r j) cs rows).sum = _
    rw [List.sum_cons, zip_sum cs rows]
    rfl
theorem dl_tail {r : Row} {F : List Row} {l : Nat} {ls : List Nat} (h : Dl p (r :: F) (l :: ls)) : ∀ m ∈ ls, ent r m = 0 := fun m hm => by
  obtain ⟨k, hk⟩ := List.getElem?_of_mem hm
  have := h.2 0 (k + 1) r m rfl hk
  rw [if_neg (by omega)] at this
  exact this
theorem red_dot : ∀ {F : List Row} {ls : List Nat} (v : Nat → Int) (j : Nat), Dl p F ls → red F ls v j = v j - dot (ls.map v) F j
  | [], ls, v, j, h => by
    rw [red_nil, dot_nil]
    omega
  | r :: F, [], v, j, h => by simp [Dl] at h
  | r :: F, l :: ls, v, j, h => by
    have ih := red_dot (F := F) (ls := ls) (fun j => v j - v l * ent r j) j h.tail
    have e : ls.map (fun j => v j - v l * ent r j) = ls.map v := by
      refine List.map_congr_left fun m hm => ?_
      rw [dl_tail h m hm]
      omega
    rw [e] at ih
    show red F ls (fun j => v j - v l * ent r j) j = v j - (v l * ent r j + dot (ls.map v) F j)
    rw [ih]
    omega
theorem red_cong {F : List Row} {ls : List Nat} {u v : Nat → Int} (hl : ∀ l ∈ ls, l < n) (h : ∀ j, j < n → cg p (u j) (v j)) : ∀ j, j < n → cg p (red F ls u j) (red F ls v j) := fun j hj => by
  have z : Z p n (red F ls (fun j => u j + (-1) * v j)) := red_zero hl fun j hj => by
    have := (h j hj).add (cg.refl p ((-1) * v j))
    exact this.trans (cg.of_eq (by grind))
  have a := z j hj
  rw [red_lin (-1) F ls u v j] at a
  have := a.add (cg.refl p (red F ls v j))
  exact (cg.of_eq (by grind)).trans (this.trans (cg.of_eq (by grind)))
def redR (p : Int) : List Row → List Nat → Row → Row
  | r :: F, l :: ls, m => redR p F ls (lessR p m (ent m l) r)
  | _, _, m => m
theorem redR_nil (ls : List Nat) (m : Row) : redR p [] ls m = m := by cases ls <;> rfl
theorem redR_wf (hp : 0 < p) : ∀ {F : List Row} {ls : List Nat} {m : Row}, (∀ r ∈ F, Wf p n r) → Wf p n m → Wf p n (redR p F ls m)
  | [], ls, m, _, h => by rw [redR_nil]; exact h
  | r :: F, [], m, _, h => h
  | r :: F, l :: ls, m, hF, h => redR_wf hp (F := F) (ls := ls) (fun s hs => hF s (List.mem_cons_of_mem _ hs)) (lessR_wf hp h (hF r List.mem_cons_self))
theorem redR_ent (hp : 0 < p) : ∀ {F : List Row} {ls : List Nat} {m : Row}, (∀ r ∈ F, Wf p n r) → (∀ l ∈ ls, l < n) → Wf p n m → ∀ j, j < n → cg p (ent (redR p F ls m) j) (red F ls (ent m) j)
  | [], ls, m, _, _, h, j, hj => by rw [redR_nil, red_nil]; exact cg.refl _ _
  | r :: F, [], m, _, _, h, j, hj => cg.refl _ _
  | r :: F, l :: ls, m, hF, hl, h, j, hj => by
    have hl' : ∀ k ∈ ls, k < n := fun k hk => hl k (List.mem_cons_of_mem _ hk)
    have ih := redR_ent hp (F := F) (ls := ls) (fun s hs => hF s (List.mem_cons_of_mem _ hs)) hl' (lessR_wf (c := ent m l) hp h (hF r List.mem_cons_self)) j hj
    refine ih.trans (red_cong hl' (fun i hi => ?_) j hj)
    rw [lessR_ent h (hF r List.mem_cons_self) hi]
    exact cg.emod _ _
def shr (ls : List Nat) (m : Row) : List Int := ls.map (ent m)
theorem mix_zero (hp : 2 ≤ p) {F : List Row} {ls : List Nat} (L : Low p n F ls) {m : Row} (w : Wf p n m) : mixM p (shr ls m) F n = m ↔ Z p n (red F ls (ent m)) := by
  constructor
  · intro h j hj
    rw [red_dot (ent m) j L.dl]
    have e := mixM_ent (p := p) (cs := shr ls m) (rows := F) hj
    rw [h] at e
    have c : cg p (ent m j) (dot (ls.map (ent m)) F j) := (cg.of_eq e).trans (cg.emod _ _)
    exact (c.sub (cg.refl p (dot (ls.map (ent m)) F j))).trans (cg.of_eq (by omega))
  · intro h
    refine row_ext (mixM_wf (by omega)) w fun j hj => ?_
    rw [mixM_ent hj]
    have a := h j hj
    rw [red_dot (ent m) j L.dl] at a
    have := a.add (cg.refl p (dot (ls.map (ent m)) F j))
    exact (cg.emod _ _).trans (((cg.of_eq (by unfold shr; omega)).trans this.symm).trans (cg.of_eq (by omega)))
theorem any_zero (hp : 0 < p) {m : Row} (w : Wf p n m) : m.any (fun x => x != 0) = false ↔ Z p n (ent m) := by
  constructor
  · intro h j hj
    have := List.any_eq_false.mp h _ (ent_mem (r := m) (j := j) (by rw [w.len]; exact hj))
    exact cg.of_eq (by simpa using this)
  · intro h
    refine List.any_eq_false.mpr fun x hx => ?_
    obtain ⟨j, hj, rfl⟩ := List.getElem_of_mem hx
    have e : m[j] = ent m j := by
      unfold ent
      rw [getD_el m 0 hj]
    have r := w.rng _ hx
    have := (h j (by rw [w.len] at hj; exact hj)).eq (by rw [← e]; exact r.1) (by rw [← e]; exact r.2) (Int.le_refl _) (by omega)
    rw [e, this]
    decide
theorem left_iff (hp : 2 ≤ p) {F : List Row} {ls : List Nat} (L : Low p n F ls) {m : Row} (w : Wf p n m) : (redR p F ls m).any (fun x => x != 0) = !decide (mixM p (shr ls m) F n = m) := by
  have pp : 0 < p := by omega
  have wr := redR_wf pp L.wf w (ls := ls)
  have key : (redR p F ls m).any (fun x => x != 0) = false ↔ mixM p (shr ls m) F n = m := by
    rw [mix_zero hp L w, any_zero pp wr]
    have e := redR_ent pp L.wf L.lt w
    exact ⟨fun h j hj => (e j hj).symm.trans (h j hj), fun h j hj => (e j hj).trans (h j hj)⟩
  by_cases h : mixM p (shr ls m) F n = m
  · rw [key.mpr h, decide_eq_true h]
    rfl
  · rw [decide_eq_false h]
    cases e : (redR p F ls m).any (fun x => x != 0) with
    | true => rfl
    | false => exact absurd (key.mp e) h
def mixR (p c : Int) (one other : Row) : Row := List.zipWith (fun a b => (a + c * b) % p) one other
theorem mixR_len {c : Int} {row b : Row} (h : Wf p n row) (h2 : Wf p n b) : (mixR p c row b).length = n := by
  unfold mixR
  rw [List.length_zipWith, h.len, h2.len, Nat.min_self]
theorem mixR_ent {row b : Row} {c : Int} (h : Wf p n row) (h2 : Wf p n b) {j : Nat} (hj : j < n) : ent (mixR p c row b) j = (ent row j + c * ent b j) % p := by
  have a := ent_some (r := mixR p c row b) (j := j) (by rw [mixR_len h h2]; exact hj)
  unfold mixR at a
  rw [List.getElem?_zipWith, ent_some (by rw [h.len]; exact hj), ent_some (by rw [h2.len]; exact hj)] at a
  exact (Option.some.inj a).symm
theorem mixR_wf0 (hp : 0 < p) {row b : Row} {c : Int} (h : Wf p n row) (h2 : Wf p n b) : Wf p n (mixR p c row b) := by
  refine ⟨mixR_len h h2, fun x hx => ?_⟩
  obtain ⟨j, hj, rfl⟩ := List.getElem_of_mem hx
  have hj' : j < n := by rw [mixR_len h h2] at hj; exact hj
  have e := mixR_ent (c := c) h h2 hj'
  unfold ent at e
  rw [getD_el _ _ hj] at e
  rw [e]
  exact ⟨Int.emod_nonneg _ (by omega), Int.emod_lt_of_pos _ hp⟩
def accM (p : Int) : Row → List Int → List Row → Row
  | acc, c :: cs, r :: rows => accM p (mixR p c acc r) cs rows
  | acc, _, _ => acc
theorem accM_nil (acc : Row) (cs : List Int) : accM p acc cs [] = acc := by cases cs <;> rfl
theorem accM_ok (hp : 0 < p) : ∀ {rows : List Row} {cs : List Int} {acc : Row}, (∀ r ∈ rows, Wf p n r) → Wf p n acc → Wf p n (accM p acc cs rows) ∧ ∀ j, j < n → cg p (ent (accM p acc cs rows) j) (ent acc j + dot cs rows j)
  | [], cs, acc, _, h => by
    rw [accM_nil]
    exact ⟨h, fun j _ => cg.of_eq (by rw [dot_nil]; omega)⟩
  | r :: rows, [], acc, _, h => ⟨h, fun j _ => cg.of_eq (by show _ = _ + (0 : Int); rw [Int.add_zero]; rfl)⟩
  | r :: rows, c :: cs, acc, hr, h => by
    have ih := accM_ok hp (rows := rows) (cs := cs) (fun s hs => hr s (List.mem_cons_of_mem _ hs)) (mixR_wf0 (c := c) hp h (hr r List.mem_cons_self))
    refine ⟨ih.1, fun j hj => (ih.2 j hj).trans ?_⟩
    rw [mixR_ent h (hr r List.mem_cons_self) hj]
    have := (cg.emod p (ent acc j + c * ent r j)).add (cg.refl p (dot cs rows j))
    exact this.trans (cg.of_eq (by show _ = _ + (c * ent r j + dot cs rows j); omega))
def zeros (n : Nat) : Row := List.replicate n 0
theorem zeros_wf (hp : 0 < p) : Wf p n (zeros n) := ⟨List.length_replicate, fun x hx => by
  rw [List.eq_of_mem_replicate hx]
  omega⟩
theorem zeros_ent {j : Nat} : ent (zeros n) j = 0 := by
  unfold ent zeros
  rw [List.getD_eq_getElem?_getD, List.getElem?_replicate]
  split <;> rfl
theorem accM_is (hp : 0 < p) {rows : List Row} {cs : List Int} (hr : ∀ r ∈ rows, Wf p n r) : accM p (zeros n) cs rows = mixM p cs rows n := by
  obtain ⟨w, e⟩ := accM_ok (cs := cs) hp hr (zeros_wf (n := n) hp)
  refine row_ext w (mixM_wf hp) fun j hj => ?_
  rw [mixM_ent hj]
  refine (e j hj).trans ?_
  rw [zeros_ent, Int.zero_add]
  exact (cg.emod _ _).symm
end
end My

/-! What lies across a low list. -/
namespace My
/-- a sum over the first n -/
def dsum : Nat → (Nat → Int) → Int
  | 0, _ => 0
  | n + 1, f => dsum n f + f n
theorem dsum_congr {f g : Nat → Int} : ∀ n, (∀ i, i < n → f i = g i) → dsum n f = dsum n g
  | 0, _ => rfl
  | n + 1, h => by
    show dsum n f + f n = dsum n g + g n
    rw [dsum_congr n fun i hi => h i (by omega), h n (by omega)]
theorem dsum_cg {p : Int} {f g : Nat → Int} : ∀ n, (∀ i, i < n → cg p (f i) (g i)) → cg p (dsum n f) (dsum n g)
  | 0, _ => cg.refl _ _
  | n + 1, h => (dsum_cg n fun i hi => h i (by omega)).add (h n (by omega))
theorem dsum_lin (c : Int) (f g : Nat → Int) : ∀ n, dsum n (fun i => f i + c * g i) = dsum n f + c * dsum n g
  | 0 => by show (0 : Int) = 0 + c * 0; omega
  | n + 1 => by
    show dsum n (fun i => f i + c * g i) + (f n + c * g n) = (dsum n f + f n) + c * (dsum n g + g n)
    rw [dsum_lin c f g n]
    grind
theorem dsum_zero : ∀ n, dsum n (fun _ => 0) = 0
  | 0 => rfl
  | n + 1 => by
    show dsum n (fun _ => 0) + 0 = 0
    rw [dsum_zero n]
    rfl
theorem dsum_one {j : Nat} (f : Nat → Int) : ∀ n, dsum n (fun i => if i = j then f i else 0) = if j < n then f j else 0
  | 0 => by rw [if_neg (by omega)]; rfl
  | n + 1 => by
    show dsum n (fun i => if i = j then f i else 0) + (if n = j then f n else 0) = _
    rw [dsum_one f n]
    by_cases h : n = j
    · rw [if_pos h, if_neg (by omega), if_pos (by omega), h]
      omega
    · rw [if_neg h]
      by_cases h2 : j < n
      · rw [if_pos h2, if_pos (by omega)]
        omega
      · rw [if_neg h2, if_neg (by omega)]
        rfl
theorem dsum_shift (f : Nat → Int) : ∀ n, dsum (n + 1) f = f 0 + dsum n (fun i => f (i + 1))
  | 0 => by show (0 : Int) + f 0 = f 0 + 0; omega
  | n + 1 => by
    show dsum (n + 1) f + f (n + 1) = f 0 + (dsum n (fun i => f (i + 1)) + f (n + 1))
    rw [dsum_shift f n]
    omega
theorem zip_dsum : ∀ {n : Nat} {u v : Row}, u.length = n → v.length = n → (List.zipWith (fun a b => a * b) u v).sum = dsum n (fun i => ent u i * ent v i)
  | 0, [], [], _, _ => rfl
  | n + 1, a :: u, b :: v, h1, h2 => by
    rw [dsum_shift]
    show (a * b :: List.zipWith (fun a b => a * b) u v).sum = a * b + dsum n (fun i => ent u i * ent v i)
    rw [List.sum_cons, zip_dsum (n := n) (by simpa using h1) (by simpa using h2)]
/-- u lies across v -/
def Orth (p : Int) (n : Nat) (u v : Nat → Int) : Prop := cg p (dsum n (fun i => u i * v i)) 0
section
variable {p : Int} {n : Nat}
theorem Orth.comm {u v : Nat → Int} (h : Orth p n u v) : Orth p n v u := (cg.of_eq (dsum_congr n fun i _ => Int.mul_comm _ _)).trans h
theorem Orth.spn {R : List Row} {v u : Nat → Int} (h : ∀ r ∈ R, Orth p n (ent r) v) (hu : Spn p n R u) : Orth p n u v := by
  induction hu with
  | zero hz =>
    refine (dsum_cg (g := fun _ => 0) n fun i hi => ?_).trans (cg.of_eq (dsum_zero n))
    exact ((hz i hi).mul (cg.refl p (v i))).trans (cg.of_eq (by omega))
  | @add u w r c hr hu e ih =>
    have e2 : cg p (dsum n (fun i => w i * v i)) (dsum n (fun i => u i * v i + c * (ent r i * v i))) := dsum_cg n fun i hi => ((e i hi).mul (cg.refl p (v i))).trans (cg.of_eq (by grind))
    refine e2.trans ?_
    rw [dsum_lin]
    have := ih.add ((cg.refl p c).mul (h r hr))
    exact this.trans (cg.of_eq (by omega))
/-- the places that are no lead, in order -/
def outs (n : Nat) (ls : List Nat) : List Nat := (List.range n).filter fun j => !ls.contains j
theorem outs_mem {ls : List Nat} {j : Nat} : j ∈ outs n ls ↔ j < n ∧ j ∉ ls := by
  unfold outs
  rw [List.mem_filter, List.mem_range]
  simp
theorem outs_up {ls : List Nat} : (outs n ls).Pairwise (· < ·) := List.Pairwise.filter _ List.pairwise_lt_range
theorem filter_split {α : Type} (f : α → Bool) : ∀ l : List α, (l.filter f).length + (l.filter fun x => !f x).length = l.length
  | [] => rfl
  | a :: l => by
    have ih := filter_split f l
    rw [List.filter_cons, List.filter_cons, List.length_cons]
    cases f a
    · show (l.filter f).length + ((a :: l.filter fun x => !f x)).length = _
      rw [List.length_cons]
      omega
    · show (a :: l.filter f).length + (l.filter fun x => !f x).length = _
      rw [List.length_cons]
      omega
theorem outs_len {ls : List Nat} (up : ls.Pairwise (· < ·)) (lt : ∀ l ∈ ls, l < n) : (outs n ls).length = n - ls.length := by
  have e : (List.range n).filter (fun j => ls.contains j) = ls := sorted_eq (List.Pairwise.filter _ List.pairwise_lt_range) up fun x => by
    rw [List.mem_filter, List.mem_range]
    constructor
    · intro h
      simpa using h.2
    · intro h
      exact ⟨lt x h, by simpa using h⟩
  have l := filter_split (fun j => ls.contains j) (List.range n)
  rw [e, List.length_range] at l
  unfold outs
  omega
def setAll (p : Int) (j : Nat) : Row → List Nat → List Row → Row
  | row, l :: ls, r :: F => setAll p j (row.set l (-(ent r j) % p)) ls F
  | row, _, _ => row
theorem setAll_nil (j : Nat) (row : Row) (ls : List Nat) : setAll p j row ls [] = row := by cases ls <;> rfl
theorem ent_set {row : Row} {l i : Nat} {x : Int} (h : l < row.length) : ent (row.set l x) i = if i = l then x else ent row i := by
  unfold ent
  rw [List.getD_eq_getElem?_getD, List.getElem?_set]
  by_cases e : l = i
  · rw [if_pos e, if_pos h, if_pos e.symm]
    rfl
  · rw [if_neg e, if_neg (fun z => e z.symm), List.getD_eq_getElem?_getD]
theorem wf_set {row : Row} {l : Nat} {x : Int} (w : Wf p n row) (h0 : 0 ≤ x) (h1 : x < p) : Wf p n (row.set l x) := ⟨by rw [List.length_set, w.len], fun y hy => by
  rcases List.mem_or_eq_of_mem_set hy with h | h
  · exact w.rng y h
  · rw [h]
    exact ⟨h0, h1⟩⟩
theorem setAll_wf (hp : 0 < p) (j : Nat) : ∀ {F : List Row} {ls : List Nat} {row : Row}, Wf p n row → Wf p n (setAll p j row ls F)
  | [], ls, row, w => by rw [setAll_nil]; exact w
  | r :: F, [], row, w => w
  | r :: F, l :: ls, row, w => setAll_wf hp j (F := F) (ls := ls) (wf_set w (Int.emod_nonneg _ (by omega)) (Int.emod_lt_of_pos _ hp))
theorem setAll_off (j : Nat) : ∀ {F : List Row} {ls : List Nat} {row : Row} {i : Nat}, (∀ l ∈ ls, l < row.length) → i ∉ ls → ent (setAll p j row ls F) i = ent row i
  | [], ls, row, i, _, _ => by rw [setAll_nil]
  | r :: F, [], row, i, _, _ => rfl
  | r :: F, l :: ls, row, i, hl, hi => by
    show ent (setAll p j (row.set l (-(ent r j) % p)) ls F) i = ent row i
    rw [setAll_off j (F := F) (ls := ls) (fun m hm => by rw [List.length_set]; exact hl m (List.mem_cons_of_mem _ hm)) (fun h => hi (List.mem_cons_of_mem _ h)), ent_set (hl l List.mem_cons_self), if_neg (fun h : i = l => hi (h ▸ List.mem_cons_self))]
theorem setAll_on (j : Nat) : ∀ {F : List Row} {ls : List Nat} {row : Row} {k l : Nat} {r : Row}, (∀ l ∈ ls, l < row.length) → ls.Pairwise (· < ·) → ls[k]? = some l → F[k]? = some r → ent (setAll p j row ls F) l = -(ent r j) % p
  | [], _, _, _, _, _, _, _, _, h => by simp at h
  | s :: F, [], _, _, _, _, _, _, h, _ => by simp at h
  | s :: F, m :: ls, row, 0, l, r, hl, up, h1, h2 => by
    cases Option.some.inj h1
    cases Option.some.inj h2
    show ent (setAll p j (row.set m (-(ent s j) % p)) ls F) m = _
    rw [setAll_off j (F := F) (ls := ls) (fun x hx => by rw [List.length_set]; exact hl x (List.mem_cons_of_mem _ hx)) (fun h => Nat.lt_irrefl _ ((List.pairwise_cons.mp up).1 m h)), ent_set (hl m List.mem_cons_self), if_pos rfl]
  | s :: F, m :: ls, row, k + 1, l, r, hl, up, h1, h2 =>
    setAll_on j (F := F) (ls := ls) (k := k) (fun x hx => by rw [List.length_set]; exact hl x (List.mem_cons_of_mem _ hx)) (List.pairwise_cons.mp up).2 h1 h2
def nullV (p : Int) (n : Nat) (F : List Row) (ls : List Nat) (j : Nat) : Row := setAll p j ((zeros n).set j 1) ls F
def found (p : Int) (n : Nat) (F : List Row) (ls : List Nat) : List Row := (outs n ls).map (nullV p n F ls)
theorem zeros_len : (zeros n).length = n := List.length_replicate
theorem nullV_wf (hp : 2 ≤ p) {F : List Row} {ls : List Nat} {j : Nat} : Wf p n (nullV p n F ls j) := setAll_wf (by omega) j (wf_set (zeros_wf (by omega)) (by omega) (by omega))
theorem found_wf (hp : 2 ≤ p) {F : List Row} {ls : List Nat} : ∀ r ∈ found p n F ls, Wf p n r := fun r hr => by
  obtain ⟨j, _, rfl⟩ := List.mem_map.mp hr
  exact nullV_wf hp
theorem nullV_out {F : List Row} {ls : List Nat} {i j : Nat} (lt : ∀ l ∈ ls, l < n) (hj : j < n) (hi : i ∉ ls) : ent (nullV p n F ls j) i = if i = j then 1 else 0 := by
  unfold nullV
  rw [setAll_off j (fun l hl => by rw [List.length_set, zeros_len]; exact lt l hl) hi, ent_set (by rw [zeros_len]; exact hj), zeros_ent]
theorem nullV_on {F : List Row} {ls : List Nat} {j k l : Nat} {r : Row} (L : Low p n F ls) (hl : ls[k]? = some l) (hr : F[k]? = some r) : ent (nullV p n F ls j) l = -(ent r j) % p :=
  setAll_on j (fun l hl => by rw [List.length_set, zeros_len]; exact L.lt l hl) L.up hl hr
/-- a row that is given at the leads by a row of the form: the products with it -/
theorem supp_sum {F : List Row} {ls : List Nat} (L : Low p n F ls) {w : Nat → Int} {k : Nat} {r : Row} {l : Nat} (hr : F[k]? = some r) (hl : ls[k]? = some l) {j : Nat} (hjn : j < n) (hjl : j ∉ ls) (h0 : ∀ i, i < n → i ∉ ls → i ≠ j → w i = 0) :
    dsum n (fun i => w i * ent r i) = w j * ent r j + w l := by
  have ne : l ≠ j := fun e => hjl (e ▸ List.mem_of_getElem? hl)
  have ln : l < n := L.lt l (List.mem_of_getElem? hl)
  have rl : ent r l = 1 := by rw [L.dl.2 k k r l hr hl, if_pos rfl]
  have e : dsum n (fun i => w i * ent r i) = dsum n (fun i => (if i = j then w i * ent r i else 0) + 1 * (if i = l then w i * ent r i else 0)) := dsum_congr n fun i hi => by
    by_cases h1 : i = j
    · rw [if_pos h1, if_neg (fun z : i = l => ne (z.symm.trans h1))]
      omega
    · rw [if_neg h1]
      by_cases h2 : i = l
      · rw [if_pos h2]
        omega
      · rw [if_neg h2]
        by_cases h3 : i ∈ ls
        · obtain ⟨k2, hk2⟩ := List.getElem?_of_mem h3
          have nk : k ≠ k2 := fun e => by
            rw [← e, hl] at hk2
            exact h2 (Option.some.inj hk2).symm
          rw [L.dl.2 k k2 r i hr hk2, if_neg nk]
          omega
        · rw [h0 i hi h3 h1]
          omega
  rw [e, dsum_lin, dsum_one (fun i => w i * ent r i), dsum_one (fun i => w i * ent r i), if_pos hjn, if_pos ln, rl]
  omega
theorem null_orth {F : List Row} {ls : List Nat} (L : Low p n F ls) {j : Nat} (hj : j < n) (hjl : j ∉ ls) : ∀ r ∈ F, Orth p n (ent (nullV p n F ls j)) (ent r) := fun r hr => by
  obtain ⟨k, hk⟩ := List.getElem?_of_mem hr
  obtain ⟨l, hl⟩ : ∃ l, ls[k]? = some l := ⟨ls[k]'(by have := (List.getElem?_eq_some_iff.mp hk).1; have := L.dl.1; omega), List.getElem?_eq_getElem _⟩
  unfold Orth
  rw [supp_sum L hk hl hj hjl fun i hi hn hne => by rw [nullV_out L.lt hj hn, if_neg hne], nullV_out L.lt hj hjl, if_pos rfl, nullV_on L hl hk]
  have := (cg.refl p (1 * ent r j)).add (cg.emod p (-(ent r j)))
  exact this.trans (cg.of_eq (by omega))
theorem found_orth {F : List Row} {ls : List Nat} (L : Low p n F ls) : ∀ u ∈ found p n F ls, ∀ r ∈ F, Orth p n (ent u) (ent r) := fun u hu r hr => by
  obtain ⟨j, hj, rfl⟩ := List.mem_map.mp hu
  have := outs_mem.mp hj
  exact null_orth L this.1 this.2 r hr
/-- what lies across all rows of the form is a mixture of those found -/
theorem found_all (hp : 2 ≤ p) {F : List Row} {ls : List Nat} (L : Low p n F ls) {u : Nat → Int} (h : ∀ r ∈ F, Orth p n u (ent r)) : Spn p n (found p n F ls) u := by
  have build : ∀ J : List Nat, J.Nodup → (∀ j ∈ J, j < n ∧ j ∉ ls) → ∃ s, Spn p n (found p n F ls) s ∧ (∀ i, i < n → i ∉ ls → s i = if i ∈ J then u i else 0) ∧ ∀ r ∈ F, Orth p n s (ent r) := fun J => by
    induction J with
    | nil =>
      intro _ _
      refine ⟨fun _ => 0, .zero fun _ _ => cg.refl _ _, fun i _ _ => by rw [if_neg (by simp)], fun r _ => ?_⟩
      exact (cg.of_eq (dsum_congr n fun i _ => Int.zero_mul _)).trans (cg.of_eq (dsum_zero n))
    | cons j J ih =>
      intro nd hJ
      obtain ⟨s, a, b, c⟩ := ih (List.nodup_cons.mp nd).2 fun x hx => hJ x (List.mem_cons_of_mem _ hx)
      have hj := hJ j List.mem_cons_self
      have mem : nullV p n F ls j ∈ found p n F ls := List.mem_map.mpr ⟨j, outs_mem.mpr hj, rfl⟩
      refine ⟨fun i => s i + u j * ent (nullV p n F ls j) i, a.lin (u j) (.mem mem), fun i hi hn => ?_, fun r hr => ?_⟩
      · show s i + u j * ent (nullV p n F ls j) i = _
        rw [b i hi hn, nullV_out L.lt hj.1 hn]
        by_cases e : i = j
        · subst e
          rw [if_neg (List.nodup_cons.mp nd).1, if_pos rfl, if_pos List.mem_cons_self]
          omega
        · rw [if_neg e]
          by_cases h2 : i ∈ J
          · rw [if_pos h2, if_pos (List.mem_cons_of_mem _ h2)]
            omega
          · rw [if_neg h2, if_neg (fun z => (List.mem_cons.mp z).elim e h2)]
            omega
      · have e : dsum n (fun i => (s i + u j * ent (nullV p n F ls j) i) * ent r i) = dsum n (fun i => s i * ent r i + u j * (ent (nullV p n F ls j) i * ent r i)) := dsum_congr n fun i _ => by grind
        unfold Orth
        rw [e, dsum_lin]
        have := (c r hr).add ((cg.refl p (u j)).mul (null_orth L hj.1 hj.2 r hr))
        exact this.trans (cg.of_eq (by omega))
  obtain ⟨s, a, b, c⟩ := build (outs n ls) (outs_up.imp fun h => Nat.ne_of_lt h) fun j hj => outs_mem.mp hj
  have same : ∀ i, i < n → i ∉ ls → s i = u i := fun i hi hn => by
    rw [b i hi hn, if_pos (outs_mem.mpr ⟨hi, hn⟩)]
  refine a.cong fun i hi => ?_
  by_cases hn : i ∈ ls
  · obtain ⟨k, hk⟩ := List.getElem?_of_mem hn
    obtain ⟨r, hr⟩ : ∃ r, F[k]? = some r := ⟨F[k]'(by have := (List.getElem?_eq_some_iff.mp hk).1; have := L.dl.1; omega), List.getElem?_eq_getElem _⟩
    have hrm := List.mem_of_getElem? hr
    have d : cg p (dsum n (fun i => (u i + (-1) * s i) * ent r i)) 0 := by
      have e : dsum n (fun i => (u i + (-1) * s i) * ent r i) = dsum n (fun i => u i * ent r i + (-1) * (s i * ent r i)) := dsum_congr n fun i _ => by grind
      rw [e, dsum_lin]
      have := (h r hrm).add ((cg.refl p (-1)).mul (c r hrm))
      exact this.trans (cg.of_eq (by omega))
    have e1 : dsum n (fun m => (u m + (-1) * s m) * ent r m) = dsum n (fun m => if m = i then (u m + (-1) * s m) * ent r m else 0) := dsum_congr n fun m hm => by
      by_cases e : m = i
      · rw [if_pos e]
      · rw [if_neg e]
        by_cases h3 : m ∈ ls
        · obtain ⟨k2, hk2⟩ := List.getElem?_of_mem h3
          have nk : k ≠ k2 := fun z => by
            rw [← z, hk] at hk2
            exact e (Option.some.inj hk2).symm
          rw [L.dl.2 k k2 r m hr hk2, if_neg nk]
          omega
        · rw [same m hm h3]
          grind
    rw [e1, dsum_one (fun m => (u m + (-1) * s m) * ent r m), if_pos hi, L.dl.2 k k r i hr hk, if_pos rfl] at d
    have := d.add (cg.refl p (s i))
    exact (cg.of_eq (by omega)).trans (this.trans (cg.of_eq (by omega)))
  · exact cg.of_eq (same i hi hn).symm
theorem runM_sum {inv : Int → Int} {rows : List Row} : ∀ k, (runM p inv rows k).1.length + (runM p inv rows k).2.length ≤ rows.length
  | 0 => by show 0 + rows.length ≤ rows.length; omega
  | k + 1 => by
    have ih := runM_sum (inv := inv) (rows := rows) k
    show (stepM p inv k (runM p inv rows k)).1.length + (stepM p inv k (runM p inv rows k)).2.length ≤ _
    unfold stepM
    split
    · exact ih
    · rename_i at_ h
      obtain ⟨hl, _⟩ := pick_some h
      show (clearM _ _ _ _ ++ [_]).length + (clearM _ _ _ _).length ≤ _
      unfold clearM
      rw [List.length_append, List.length_map, List.length_map, List.length_singleton, List.length_eraseIdx, if_pos hl]
      omega
theorem lowM_le {inv : Int → Int} (rows : List Row) : (lowM p inv rows).length ≤ rows.length := by
  have := runM_sum (p := p) (inv := inv) (rows := rows) (lenM rows)
  unfold lowM
  omega
/-- rows that are told apart at as many places are no more than a low list whose span has them -/
theorem dual_le {inv : Int → Int} (hp : 2 ≤ p) (hv : InvOk p inv) {G : List Row} {ms : List Nat} (L : Low p n G ms) {J : List Nat} {U : List Row} (hlen : U.length = J.length) (hU : ∀ u ∈ U, Spn p n G (ent u)) (hd : ∀ (a b : Nat) u j, U[a]? = some u → J[b]? = some j → ent u j = if b = a then 1 else 0) (hJ : ∀ j ∈ J, j < n) : J.length ≤ G.length := by
  refine Classical.byContradiction fun c => ?_
  let proj : Row → Row := fun r => J.map (ent r)
  have pw : ∀ r ∈ G.map proj, Wf p J.length r := fun r hr => by
    obtain ⟨g, hg, rfl⟩ := List.mem_map.mp hr
    refine ⟨List.length_map _, fun x hx => ?_⟩
    obtain ⟨j, hj, rfl⟩ := List.mem_map.mp hx
    exact (L.wf g hg).ent (hJ j hj)
  obtain ⟨hs, LH, _, o⟩ := lowM_ok (n := J.length) hp hv pw
  have few : (lowM p inv (G.map proj)).length ≤ G.length := by
    have := lowM_le (p := p) (inv := inv) (G.map proj)
    rw [List.length_map] at this
    exact this
  have out : (outs J.length hs).length ≠ 0 := by
    rw [outs_len LH.up LH.lt, LH.dl.1]
    omega
  obtain ⟨b0, hb0⟩ := List.exists_mem_of_ne_nil (outs J.length hs) (fun e => out (by rw [e]; rfl))
  have hb := outs_mem.mp hb0
  have or1 := null_orth LH hb.1 hb.2
  have x1 : ent (nullV p J.length (lowM p inv (G.map proj)) hs b0) b0 = 1 := by rw [nullV_out LH.lt hb.1 hb.2, if_pos rfl]
  generalize nullV p J.length (lowM p inv (G.map proj)) hs b0 = x at *
  have or2 : ∀ g ∈ G, Orth p J.length (ent (proj g)) (ent x) := fun g hg => Orth.spn (R := lowM p inv (G.map proj)) (fun r hr => (or1 r hr).comm) (o _ (List.mem_map.mpr ⟨g, hg, rfl⟩))
  have pe : ∀ (v : Row) (b : Nat) j, J[b]? = some j → ent (proj v) b = ent v j := fun v b j hb => by
    show (J.map (ent v)).getD b 0 = _
    rw [List.getD_eq_getElem?_getD, List.getElem?_map, hb]
    rfl
  -- the sum over J of v at j times x at its number comes to 0 for all of the span
  have phi : ∀ v, Spn p n G v → cg p (dsum J.length (fun b => v (J.getD b 0) * ent x b)) 0 := fun v hv => by
    induction hv with
    | zero hz =>
      refine (dsum_cg (g := fun _ => 0) J.length fun b hb => ?_).trans (cg.of_eq (dsum_zero _))
      have hjn : J.getD b 0 < n := hJ _ (by rw [getD_el J 0 hb]; exact List.getElem_mem hb)
      exact ((hz _ hjn).mul (cg.refl p (ent x b))).trans (cg.of_eq (by omega))
    | @add u w r cc hr hu e ih =>
      have e2 : cg p (dsum J.length (fun b => w (J.getD b 0) * ent x b)) (dsum J.length (fun b => u (J.getD b 0) * ent x b + cc * (ent r (J.getD b 0) * ent x b))) := dsum_cg _ fun b hb => by
        have hjn : J.getD b 0 < n := hJ _ (by rw [getD_el J 0 hb]; exact List.getElem_mem hb)
        exact ((e _ hjn).mul (cg.refl p (ent x b))).trans (cg.of_eq (by grind))
      refine e2.trans ?_
      rw [dsum_lin]
      have o2 := or2 r hr
      have e3 : dsum J.length (fun b => ent r (J.getD b 0) * ent x b) = dsum J.length (fun b => ent (proj r) b * ent x b) := dsum_congr _ fun b hb => by
        rw [pe r b _ (List.getElem?_eq_getElem hb), getD_el J 0 hb]
      rw [e3]
      have := ih.add ((cg.refl p cc).mul o2)
      exact this.trans (cg.of_eq (by omega))
  obtain ⟨u, hu⟩ : ∃ u, U[b0]? = some u := ⟨U[b0]'(by rw [hlen]; exact hb.1), List.getElem?_eq_getElem _⟩
  have z := phi (ent u) (hU u (List.mem_of_getElem? hu))
  have e : dsum J.length (fun b => ent u (J.getD b 0) * ent x b) = dsum J.length (fun b => if b = b0 then ent x b else 0) := dsum_congr _ fun b hb2 => by
    rw [getD_el J 0 hb2, hd b0 b u _ hu (List.getElem?_eq_getElem hb2)]
    by_cases e : b = b0
    · rw [if_pos e, if_pos e]; omega
    · rw [if_neg e, if_neg e]; omega
  rw [e, dsum_one (fun b => ent x b), if_pos hb.1, x1] at z
  exact one_ne hp z
def acM (p : Int) (inv : Int → Int) (n : Nat) (F : List Row) (ls : List Nat) : List Row := lowM p inv (found p n F ls)
theorem found_len {F : List Row} {ls : List Nat} (L : Low p n F ls) : (found p n F ls).length = n - F.length := by
  unfold found
  rw [List.length_map, outs_len L.up L.lt, L.dl.1]
theorem acM_ok {inv : Int → Int} (hp : 2 ≤ p) (hv : InvOk p inv) {F : List Row} {ls : List Nat} (L : Low p n F ls) :
    ∃ ms, Low p n (acM p inv n F ls) ms ∧ (acM p inv n F ls).length = n - F.length ∧ (∀ r ∈ F, ∀ u ∈ acM p inv n F ls, Orth p n (ent u) (ent r)) ∧ ∀ u, (∀ r ∈ F, Orth p n u (ent r)) → Spn p n (acM p inv n F ls) u := by
  obtain ⟨ms, LG, t, o⟩ := lowM_ok (n := n) hp hv (found_wf (n := n) hp (F := F) (ls := ls))
  refine ⟨ms, LG, ?_, fun r hr u hu => ?_, fun u hu => ?_⟩
  · have le := lowM_le (p := p) (inv := inv) (found p n F ls)
    have ge := dual_le hp hv LG (J := outs n ls) (U := found p n F ls) (by unfold found; rw [List.length_map]) o (fun a b u j hu hj => by
      unfold found at hu
      rw [List.getElem?_map] at hu
      cases ha : (outs n ls)[a]? with
      | none => rw [ha] at hu; cases hu
      | some ja =>
        rw [ha] at hu
        cases Option.some.inj hu
        have m1 := outs_mem.mp (List.mem_of_getElem? ha)
        have m2 := outs_mem.mp (List.mem_of_getElem? hj)
        rw [nullV_out L.lt m1.1 m2.2]
        by_cases e : b = a
        · rw [if_pos e, if_pos (by rw [e, ha] at hj; exact (Option.some.inj hj).symm)]
        · rw [if_neg e, if_neg fun z => ?_]
          subst z
          have nd : (outs n ls).Nodup := outs_up.imp fun h => Nat.ne_of_lt h
          obtain ⟨h1, e1⟩ := List.getElem?_eq_some_iff.mp ha
          obtain ⟨h2, e2⟩ := List.getElem?_eq_some_iff.mp hj
          exact e ((List.getElem_inj nd).mp (e2.trans e1.symm))) (fun j hj => (outs_mem.mp hj).1)
    have fl := found_len L
    rw [outs_len L.up L.lt, L.dl.1] at ge
    show (lowM p inv (found p n F ls)).length = _
    omega
  · exact Orth.spn (fun w hw => found_orth L w hw r hr) (t u hu)
  · exact (found_all hp L hu).mono o
theorem low_same_leads {F G : List Row} {ls : List Nat} (hF : Low p n F ls) (hG : Low p n G ls) (h1 : ∀ r ∈ F, Spn p n G (ent r)) : F = G := by
  have len : F.length = G.length := hF.dl.1.symm.trans hG.dl.1
  refine List.ext_getElem len fun i hi hi' => ?_
  refine row_ext (hF.wf _ (List.getElem_mem hi)) (hG.wf _ (List.getElem_mem hi')) fun j hj => ?_
  have s : Spn p n G (fun j => ent F[i] j + (-1) * ent G[i] j) := (h1 _ (List.getElem_mem hi)).lin (-1) (Spn.mem (List.getElem_mem hi'))
  have z := spn_red hG.dl hG.lt s
  have k := red_keep (p := p) (F := G) hG.lt (v := fun j => ent F[i] j + (-1) * ent G[i] j) (fun l hl => by
    obtain ⟨k, hk⟩ := List.getElem?_of_mem hl
    rw [hF.dl.2 i k _ l (List.getElem?_eq_getElem hi) hk, hG.dl.2 i k _ l (List.getElem?_eq_getElem hi') hk]
    exact cg.of_eq (by grind)) j hj
  have q := (k.symm.trans (z j hj)).add (cg.refl p (ent G[i] j))
  exact (cg.of_eq (by grind)).trans (q.trans (cg.of_eq (by grind)))
theorem up_sub_eq {a b : List Nat} (ha : a.Pairwise (· < ·)) (hb : b.Pairwise (· < ·)) (h : ∀ x ∈ a, x ∈ b) (l : a.length = b.length) : a = b := by
  have e : b.filter (fun x => a.contains x) = a := sorted_eq (List.Pairwise.filter _ hb) ha fun x => by
    rw [List.mem_filter]
    constructor
    · intro h
      simpa using h.2
    · intro hx
      exact ⟨h x hx, by simpa using hx⟩
  have e2 : (b.filter (fun x => a.contains x)).length = b.length := by rw [e, l]
  have all := List.length_filter_eq_length_iff.mp e2
  have e3 := List.filter_eq_self.mpr all
  rw [e] at e3
  exact e3
theorem low_as_many {F G : List Row} {ls ms : List Nat} (hp : 2 ≤ p) (hF : Low p n F ls) (hG : Low p n G ms) (h1 : ∀ r ∈ F, Spn p n G (ent r)) (l : F.length = G.length) : F = G := by
  have e : ls = ms := up_sub_eq hF.up hG.up (lead_in hp hF hG h1) (by rw [hF.dl.1, hG.dl.1, l])
  subst e
  exact low_same_leads hF hG h1
theorem low_few {F : List Row} {ls : List Nat} (L : Low p n F ls) : F.length ≤ n := by
  have e : (List.range n).filter (fun j => ls.contains j) = ls := sorted_eq (List.Pairwise.filter _ List.pairwise_lt_range) L.up fun x => by
    rw [List.mem_filter, List.mem_range]
    constructor
    · intro h
      simpa using h.2
    · intro h
      exact ⟨L.lt x h, by simpa using h⟩
  have := List.length_filter_le (fun j => ls.contains j) (List.range n)
  rw [e, List.length_range] at this
  rw [← L.dl.1]
  exact this
theorem acM_twice {inv : Int → Int} (hp : 2 ≤ p) (hv : InvOk p inv) {F : List Row} {ls ms : List Nat} (L : Low p n F ls) (LG : Low p n (acM p inv n F ls) ms) : acM p inv n (acM p inv n F ls) ms = F := by
  obtain ⟨_, _, l1, o1, _⟩ := acM_ok hp hv L
  obtain ⟨ms2, L2, l2, o2, a2⟩ := acM_ok hp hv LG
  refine (low_as_many hp L L2 (fun r hr => a2 _ fun u hu => (o1 r hr u hu).comm) ?_).symm
  have := low_few L
  omega
end
end My

/-! The crossing of two spans, and how many rows its form has. -/
namespace My
theorem dot_spn {p : Int} {n : Nat} {R : List Row} : ∀ (cs : List Int) (F : List Row), (∀ r ∈ F, r ∈ R) → Spn p n R (dot cs F)
  | [], F, _ => .zero fun j _ => cg.of_eq rfl
  | c :: cs, [], _ => .zero fun j _ => cg.of_eq rfl
  | c :: cs, r :: F, h => by
    have ih := dot_spn (p := p) (n := n) cs F fun s hs => h s (List.mem_cons_of_mem _ hs)
    exact .add c (h r List.mem_cons_self) ih fun j _ => cg.of_eq (by
      show c * ent r j + dot cs F j = dot cs F j + c * ent r j
      omega)
theorem dot_app (j : Nat) : ∀ (F G : List Row) (x : List Int), F.length ≤ x.length → dot x (F ++ G) j = dot (x.take F.length) F j + dot (x.drop F.length) G j
  | [], G, x, _ => by
    show dot x G j = dot [] [] j + dot x G j
    show _ = (0 : Int) + _
    omega
  | r :: F, G, [], h => by simp at h
  | r :: F, G, c :: x, h => by
    have ih := dot_app j F G x (by simpa using h)
    show c * ent r j + dot x (F ++ G) j = (c * ent r j + dot (x.take F.length) F j) + dot (x.drop F.length) G j
    omega
theorem dot_none {j : Nat} : ∀ (cs : List Int) (F : List Row), (∀ r ∈ F, ent r j = 0) → dot cs F j = 0
  | [], _, _ => rfl
  | _ :: _, [], _ => rfl
  | c :: cs, r :: F, h => by
    show c * ent r j + dot cs F j = 0
    rw [h r List.mem_cons_self, dot_none cs F fun s hs => h s (List.mem_cons_of_mem _ hs), Int.mul_zero]
    rfl
theorem dot_lead {p : Int} : ∀ {F : List Row} {ls : List Nat} {cs : List Int} {i l : Nat} {c : Int}, Dl p F ls → ls[i]? = some l → cs[i]? = some c → dot cs F l = c
  | [], ls, cs, i, l, c, h, hl, _ => by
    have := h.1
    have h2 := (List.getElem?_eq_some_iff.mp hl).1
    rw [this] at h2
    simp at h2
  | r :: F, [], cs, i, l, c, h, hl, _ => by simp at hl
  | r :: F, m :: ls, [], i, l, c, h, _, hc => by simp at hc
  | r :: F, m :: ls, d :: cs, 0, l, c, h, hl, hc => by
    cases Option.some.inj hl
    cases Option.some.inj hc
    show d * ent r m + dot cs F m = d
    have e := h.2 0 0 r m rfl rfl
    rw [if_pos rfl] at e
    rw [e, dot_none cs F fun s hs => ?_]
    · omega
    · obtain ⟨k, hk⟩ := List.getElem?_of_mem hs
      have := h.2 (k + 1) 0 s m hk rfl
      rw [if_neg (by omega)] at this
      exact this
  | r :: F, m :: ls, d :: cs, i + 1, l, c, h, hl, hc => by
    show d * ent r l + dot cs F l = c
    have e := h.2 0 (i + 1) r l rfl hl
    rw [if_neg (by omega)] at e
    rw [e, dot_lead h.tail hl hc]
    omega
theorem dot_dsum (j : Nat) : ∀ {R : List Row} {x : Row}, x.length = R.length → dot x R j = dsum R.length (fun i => ent x i * ent (R.map fun r => ent r j) i)
  | [], [], _ => rfl
  | r :: R, c :: x, h => by
    rw [List.length_cons, dsum_shift]
    show c * ent r j + dot x R j = c * ent r j + dsum R.length (fun i => ent x i * ent (R.map fun r => ent r j) i)
    rw [dot_dsum j (R := R) (x := x) (by simpa using h)]
def crM (p : Int) (inv : Int → Int) (n : Nat) (F G : List Row) (ls ms hs : List Nat) : List Row := acM p inv n (lowM p inv (acM p inv n F ls ++ acM p inv n G ms)) hs
section
variable {p : Int} {n : Nat} {inv : Int → Int}
/-- what is known of the crossing's form -/
structure Crs (p : Int) (inv : Int → Int) (n : Nat) (F G C : List Row) (cs : List Nat) : Prop where
  low : Low p n C cs
  one : ∀ r ∈ C, Spn p n F (ent r)
  two : ∀ r ∈ C, Spn p n G (ent r)
  all : ∀ u, Spn p n F u → Spn p n G u → Spn p n C u
theorem lowM_app_wf {F G : List Row} {ls ms : List Nat} (L : Low p n F ls) (L2 : Low p n G ms) : ∀ r ∈ F ++ G, Wf p n r := fun r hr => by
  rcases List.mem_append.mp hr with h | h
  · exact L.wf r h
  · exact L2.wf r h
theorem crs_ok (hp : 2 ≤ p) (hv : InvOk p inv) {F G : List Row} {ls ms : List Nat} (LF : Low p n F ls) (LG : Low p n G ms) {as bs : List Nat} (LA : Low p n (acM p inv n F ls) as) (LB : Low p n (acM p inv n G ms) bs)
    {hs : List Nat} (LO : Low p n (lowM p inv (acM p inv n F ls ++ acM p inv n G ms)) hs) : ∃ cs, Crs p inv n F G (crM p inv n F G ls ms hs) cs ∧ (crM p inv n F G ls ms hs).length = n - (lowM p inv (acM p inv n F ls ++ acM p inv n G ms)).length := by
  obtain ⟨cs, LC, len, o, a⟩ := acM_ok hp hv LO
  obtain ⟨_, _, _, oF, aF⟩ := acM_ok hp hv LF
  obtain ⟨_, _, _, oG, aG⟩ := acM_ok hp hv LG
  obtain ⟨_, _, t, op⟩ := lowM_ok (n := n) hp hv (lowM_app_wf LA LB)
  have twF := acM_twice hp hv LF LA
  have twG := acM_twice hp hv LG LB
  obtain ⟨_, _, _, _, aFF⟩ := acM_ok hp hv LA
  obtain ⟨_, _, _, _, aGG⟩ := acM_ok hp hv LB
  rw [twF] at aFF
  rw [twG] at aGG
  -- what lies across outside lies across each of the two
  have sub : ∀ r ∈ crM p inv n F G ls ms hs, ∀ u, u ∈ acM p inv n F ls ++ acM p inv n G ms → Orth p n (ent r) (ent u) := fun r hr u hu =>
    (Orth.spn (R := lowM p inv (acM p inv n F ls ++ acM p inv n G ms)) (fun w hw => (o w hw r hr).comm) (op u hu)).comm
  refine ⟨cs, ⟨LC, fun r hr => aFF _ fun u hu => sub r hr u (List.mem_append_left _ hu), fun r hr => aGG _ fun u hu => sub r hr u (List.mem_append_right _ hu), fun u h1 h2 => a u fun r hr => ?_⟩, len⟩
  refine (Orth.spn (R := acM p inv n F ls ++ acM p inv n G ms) (fun w hw => ?_) (t r hr)).comm
  rcases List.mem_append.mp hw with h | h
  · exact (Orth.spn (R := F) (fun x hx => (oF x hx w h).comm) h1).comm
  · exact (Orth.spn (R := G) (fun x hx => (oG x hx w h).comm) h2).comm
/-- at least so many -/
theorem crs_ge (hp : 2 ≤ p) (hv : InvOk p inv) {F G C : List Row} {ls ms cs : List Nat} (LF : Low p n F ls) (LG : Low p n G ms) (X : Crs p inv n F G C cs) : F.length + G.length ≤ C.length + (lowM p inv (F ++ G)).length := by
  obtain ⟨ts, LT, _, oT⟩ := lowM_ok (n := n) hp hv (lowM_app_wf LF LG)
  generalize lowM p inv (F ++ G) = T at *
  let N := (F ++ G).length
  let cols : List Row := ts.map fun l => (F ++ G).map fun r => ent r l
  have wc : ∀ r ∈ cols, Wf p N r := fun r hr => by
    obtain ⟨l, hl, rfl⟩ := List.mem_map.mp hr
    refine ⟨List.length_map _, fun x hx => ?_⟩
    obtain ⟨r, hr, rfl⟩ := List.mem_map.mp hx
    exact (lowM_app_wf LF LG r hr).ent (LT.lt l hl)
  obtain ⟨qs, LQ, tq, oq⟩ := lowM_ok (n := N) hp hv wc
  obtain ⟨ks, LK, lenK, oK, _⟩ := acM_ok hp hv LQ
  have few : (lowM p inv cols).length ≤ T.length := by
    have := lowM_le (p := p) (inv := inv) cols
    rw [show cols.length = ts.length from List.length_map _, LT.dl.1] at this
    exact this
  generalize hKd : acM p inv N (lowM p inv cols) qs = Kd at *
  -- each row of K brings the rows to nought
  have null : ∀ x ∈ Kd, ∀ j, j < n → cg p (dot x (F ++ G) j) 0 := fun x hx => by
    have wx := LK.wf x hx
    have sp : Spn p n T (dot x (F ++ G)) := (dot_spn (R := F ++ G) x (F ++ G) fun r h => h).mono oT
    have z := spn_red LT.dl LT.lt sp
    have k := red_keep (p := p) (F := T) (v := dot x (F ++ G)) LT.lt fun l hl => by
      rw [dot_dsum l (R := F ++ G) (x := x) wx.len]
      have mem : ((F ++ G).map fun r => ent r l) ∈ cols := List.mem_map.mpr ⟨l, hl, rfl⟩
      exact (Orth.spn (R := lowM p inv cols) (fun w hw => (oK w hw x hx).comm) (oq _ mem)).comm
    exact fun j hj => (k j hj).symm.trans (z j hj)
  have part : ∀ x ∈ Kd, ∀ j, j < n → cg p (dot (x.take F.length) F j + dot (x.drop F.length) G j) 0 := fun x hx j hj => by
    have h := null x hx j hj
    rw [dot_app j F G x (by rw [(LK.wf x hx).len]; show F.length ≤ (F ++ G).length; rw [List.length_append]; omega)] at h
    exact h
  -- its leads stand ahead of F's number
  have small : ∀ (k : Nat) h, ks[k]? = some h → h < F.length := fun k h hk => by
    refine Classical.byContradiction fun c => ?_
    obtain ⟨x, hx⟩ : ∃ x, Kd[k]? = some x := ⟨Kd[k]'(by have := (List.getElem?_eq_some_iff.mp hk).1; have := LK.dl.1; omega), List.getElem?_eq_getElem _⟩
    have xm := List.mem_of_getElem? hx
    have wx := LK.wf x xm
    have hN := LK.lt h (List.mem_of_getElem? hk)
    have x1 : ent x h = 1 := by rw [LK.dl.2 k k x h hx hk, if_pos rfl]
    have hNl : h < (F ++ G).length := hN
    rw [List.length_append] at hNl
    have hml : h - F.length < ms.length := by
      have := LG.dl.1
      omega
    obtain ⟨l, hl⟩ : ∃ l, ms[h - F.length]? = some l := ⟨ms[h - F.length]'hml, List.getElem?_eq_getElem hml⟩
    have ln := LG.lt l (List.mem_of_getElem? hl)
    have p1 := part x xm l ln
    have z1 : dot (x.take F.length) F l = 0 := by
      have zz : ∀ (cs : List Int) (R : List Row), (∀ y ∈ cs, y = 0) → dot cs R l = 0 := fun cs => by
        induction cs with
        | nil => intro R _; rfl
        | cons y cs ih =>
          intro R hy
          cases R with
          | nil => rfl
          | cons r R =>
            show y * ent r l + dot cs R l = 0
            rw [hy y List.mem_cons_self, ih R fun w hw => hy w (List.mem_cons_of_mem _ hw), Int.zero_mul]
            rfl
      refine zz _ F fun y hy => ?_
      obtain ⟨i, hi⟩ := List.getElem?_of_mem hy
      have il := (List.getElem?_eq_some_iff.mp hi).1
      rw [List.length_take] at il
      rw [List.getElem?_take, if_pos (by omega)] at hi
      have ei := LK.zb k x h hx hk i (by omega)
      rw [ent_some (by omega)] at hi
      rw [← Option.some.inj hi, ei]
    have z2 : dot (x.drop F.length) G l = 1 := by
      refine dot_lead LG.dl hl ?_
      rw [List.getElem?_drop, show F.length + (h - F.length) = h by omega, ent_some (by rw [wx.len]; exact hN), x1]
    rw [z1, z2] at p1
    exact one_ne hp p1
  have key := dual_le hp hv X.low (J := ks.map fun h => ls.getD h 0) (U := Kd.map fun x => mixM p (x.take F.length) F n) (by rw [List.length_map, List.length_map, LK.dl.1]) (fun u hu => by
    obtain ⟨x, hx, rfl⟩ := List.mem_map.mp hu
    have e : ∀ j, j < n → cg p (ent (mixM p (x.take F.length) F n) j) (dot (x.take F.length) F j) := fun j hj => by
      rw [mixM_ent hj]
      exact cg.emod _ _
    refine X.all _ ((dot_spn (R := F) _ F fun r h => h).cong e) ?_
    have sg : Spn p n G (fun j => (fun _ => (0 : Int)) j + (-1) * dot (x.drop F.length) G j) := (Spn.zero fun _ _ => cg.refl _ _).lin (-1) (dot_spn (R := G) _ G fun r h => h)
    refine sg.cong fun j hj => (e j hj).trans ?_
    have := (part x hx j hj).sub (cg.refl p (dot (x.drop F.length) G j))
    exact (cg.of_eq (by omega)).trans (this.trans (cg.of_eq (by
      show _ = (0 : Int) + (-1) * dot (x.drop F.length) G j
      omega)))) (fun a b u j hu hj => by
    rw [List.getElem?_map] at hu hj
    cases ha : Kd[a]? with
    | none => rw [ha] at hu; cases hu
    | some x =>
      cases hb : ks[b]? with
      | none => rw [hb] at hj; cases hj
      | some h =>
        rw [ha] at hu
        rw [hb] at hj
        cases Option.some.inj hu
        cases Option.some.inj hj
        have hF := small b h hb
        have hl : ls[h]? = some (ls.getD h 0) := by
          rw [getD_el ls 0 (by have := LF.dl.1; omega), List.getElem?_eq_getElem]
        have wx := LK.wf x (List.mem_of_getElem? ha)
        have hN := LK.lt h (List.mem_of_getElem? hb)
        rw [mixM_ent (LF.lt _ (List.mem_of_getElem? hl)), dot_lead LF.dl hl (c := ent x h) (by rw [List.getElem?_take, if_pos hF, ent_some (by rw [wx.len]; exact hN)]), LK.dl.2 a b x h ha hb]
        by_cases e : a = b
        · rw [if_pos e, if_pos e.symm]
          exact Int.emod_eq_of_lt (by omega) (by omega)
        · rw [if_neg e, if_neg (fun z => e z.symm)]
          exact Int.zero_emod _) (fun j hj => by
    obtain ⟨h, hh, rfl⟩ := List.mem_map.mp hj
    obtain ⟨b, hb⟩ := List.getElem?_of_mem hh
    have hF := small b h hb
    exact LF.lt _ (by rw [getD_el ls 0 (by have := LF.dl.1; omega)]; exact List.getElem_mem _))
  rw [List.length_map, LK.dl.1] at key
  have Nl : N = F.length + G.length := List.length_append
  omega
theorem crs_len (hp : 2 ≤ p) (hv : InvOk p inv) {F G : List Row} {ls ms : List Nat} (LF : Low p n F ls) (LG : Low p n G ms) {as bs : List Nat} (LA : Low p n (acM p inv n F ls) as) (LB : Low p n (acM p inv n G ms) bs)
    {hs : List Nat} (LO : Low p n (lowM p inv (acM p inv n F ls ++ acM p inv n G ms)) hs) : (crM p inv n F G ls ms hs).length + (lowM p inv (F ++ G)).length = F.length + G.length := by
  obtain ⟨cs, X, len⟩ := crs_ok hp hv LF LG LA LB LO
  have ge := crs_ge hp hv LF LG X
  -- the same of what lies across
  obtain ⟨_, _, lA, oA, aA⟩ := acM_ok hp hv LF
  obtain ⟨_, _, lB, oB, aB⟩ := acM_ok hp hv LG
  obtain ⟨ts, LT, tT, oT⟩ := lowM_ok (n := n) hp hv (lowM_app_wf LF LG)
  obtain ⟨us, LU, lU, oU, aU⟩ := acM_ok hp hv LT
  have Y : Crs p inv n (acM p inv n F ls) (acM p inv n G ms) (acM p inv n (lowM p inv (F ++ G)) ts) us := ⟨LU,
    fun r hr => aA _ fun u hu => (Orth.spn (R := lowM p inv (F ++ G)) (fun w hw => (oU w hw r hr).comm) (oT u (List.mem_append_left _ hu))).comm,
    fun r hr => aB _ fun u hu => (Orth.spn (R := lowM p inv (F ++ G)) (fun w hw => (oU w hw r hr).comm) (oT u (List.mem_append_right _ hu))).comm,
    fun u h1 h2 => aU u fun r hr => (Orth.spn (R := F ++ G) (fun w hw => by
      rcases List.mem_append.mp hw with h | h
      · exact (Orth.spn (R := acM p inv n F ls) (fun x hx => oA w h x hx) h1).comm
      · exact (Orth.spn (R := acM p inv n G ms) (fun x hx => oB w h x hx) h2).comm) (tT r hr)).comm⟩
  have ge2 := crs_ge hp hv LA LB Y
  have f1 := low_few LF
  have f2 := low_few LG
  have f3 := low_few LT
  have f4 := low_few LO
  omega
end
end My

/-! Tables: a row led, products. -/
namespace My
def prodM (p : Int) (A B : List Row) (n : Nat) : List Row := A.map fun r => mixM p r B n
def plainM (n : Nat) : List Row := (List.range n).map fun i => (List.range n).map fun j => if i = j then (1 : Int) else 0
section
variable {p : Int} {n m : Nat}
theorem prodM_len {A B : List Row} : (prodM p A B n).length = A.length := by unfold prodM; rw [List.length_map]
theorem prodM_wf (hp : 0 < p) {A B : List Row} : ∀ r ∈ prodM p A B n, Wf p n r := fun r hr => by
  obtain ⟨a, _, rfl⟩ := List.mem_map.mp hr
  exact mixM_wf hp
theorem dot_cong {R : List Row} {j : Nat} : ∀ {u v : List Int}, (∀ i, cg p (ent u i) (ent v i)) → u.length = v.length → cg p (dot u R j) (dot v R j)
  | [], [], _, _ => cg.refl _ _
  | [], _ :: _, _, h => by simp at h
  | _ :: _, [], _, h => by simp at h
  | x :: u, y :: v, e, h => by
    cases R with
    | nil => rw [dot_nil, dot_nil]; exact cg.refl _ _
    | cons r R =>
      have e0 : cg p x y := e 0
      exact (e0.mul (cg.refl p (ent r j))).add (dot_cong (R := R) (fun i => e (i + 1)) (by simpa using h))
theorem dot_add {R : List Row} {j : Nat} (c : Int) : ∀ {n : Nat} {f g : Nat → Int}, dot ((List.range' 0 n).map fun i => f i + c * g i) R j = dot ((List.range' 0 n).map f) R j + c * dot ((List.range' 0 n).map g) R j := by
  suffices h : ∀ (n s : Nat) (R : List Row) (f g : Nat → Int), dot ((List.range' s n).map fun i => f i + c * g i) R j = dot ((List.range' s n).map f) R j + c * dot ((List.range' s n).map g) R j from fun {n f g} => h n 0 R f g
  intro n
  induction n with
  | zero =>
    intro s R f g
    show dot [] R j = dot [] R j + c * dot [] R j
    have z : dot [] R j = 0 := by cases R <;> rfl
    rw [z]
    omega
  | succ n ih =>
    intro s R f g
    rw [List.range'_succ]
    cases R with
    | nil =>
      rw [dot_nil, dot_nil, dot_nil]
      omega
    | cons r R =>
      show (f s + c * g s) * ent r j + dot ((List.range' (s + 1) n).map fun i => f i + c * g i) R j = (f s * ent r j + dot ((List.range' (s + 1) n).map f) R j) + c * (g s * ent r j + dot ((List.range' (s + 1) n).map g) R j)
      rw [ih (s + 1) R f g]
      grind
theorem map_range' {n : Nat} {f : Nat → Int} : (List.range' 0 n).map f = (List.range n).map f := by rw [List.range_eq_range']
theorem ent_map {n : Nat} {f : Nat → Int} {i : Nat} (h : i < n) : ent ((List.range n).map f) i = f i := by
  have a := ent_some (r := (List.range n).map f) (j := i) (by rw [List.length_map, List.length_range]; exact h)
  rw [List.getElem?_map, List.getElem?_range h] at a
  exact (Option.some.inj a).symm
theorem ent_map_out {n : Nat} {f : Nat → Int} {i : Nat} (h : ¬ i < n) : ent ((List.range n).map f) i = 0 := by
  unfold ent
  rw [List.getD_eq_getElem?_getD, List.getElem?_eq_none (by rw [List.length_map, List.length_range]; omega)]
  rfl
theorem row_map {r : Row} : (List.range r.length).map (ent r) = r := by
  refine List.ext_getElem? fun i => ?_
  by_cases h : i < r.length
  · rw [List.getElem?_map, List.getElem?_range h, ent_some h]
    rfl
  · rw [List.getElem?_eq_none (by rw [List.length_map, List.length_range]; omega), List.getElem?_eq_none (by omega)]
theorem dot_flat {B : List Row} {j : Nat} {f : Nat → Int} (h : ∀ i, f i = 0) : dot ((List.range m).map f) B j = 0 := by
  have e : f = fun _ => 0 := funext h
  rw [e, ← map_range']
  suffices w : ∀ (n s : Nat) (B : List Row), dot ((List.range' s n).map fun _ => (0 : Int)) B j = 0 from w m 0 B
  intro n
  induction n with
  | zero => intro s B; cases B <;> rfl
  | succ n ih =>
    intro s B
    rw [List.range'_succ]
    cases B with
    | nil => exact dot_nil _ _
    | cons b B =>
      show 0 * ent b j + dot ((List.range' (s + 1) n).map fun _ => (0 : Int)) B j = 0
      rw [ih]
      omega
/-- led twice: dot over the product -/
theorem dot_dot {B : List Row} {j : Nat} : ∀ {r : List Int} {A : List Row}, (∀ a ∈ A, a.length = m) → dot ((List.range m).map fun i => dot r A i) B j = dot r (A.map fun a => [dot a B j]) 0
  | [], A, _ => by
    rw [dot_flat fun i => by cases A <;> rfl]
    cases A <;> rfl
  | c :: r, [], _ => dot_flat fun i => rfl
  | c :: r, a :: A, h => by
    have e : ((List.range m).map fun i => dot (c :: r) (a :: A) i) = (List.range m).map fun i => dot r A i + c * ent a i := List.map_congr_left fun i _ => by
      show c * ent a i + dot r A i = _
      omega
    rw [e, ← map_range', dot_add (f := fun i => dot r A i) (g := fun i => ent a i), map_range', map_range', dot_dot (r := r) (A := A) fun b hb => h b (List.mem_cons_of_mem _ hb)]
    have ea : (List.range m).map (fun i => ent a i) = a := by
      rw [← h a List.mem_cons_self]
      exact row_map
    rw [ea]
    show dot r (A.map fun a => [dot a B j]) 0 + c * dot a B j = c * ent [dot a B j] 0 + dot r (A.map fun a => [dot a B j]) 0
    show _ = c * dot a B j + _
    omega
theorem dot_rows {B : List Row} {j : Nat} (hj : j < n) : ∀ {r : List Int} {A : List Row}, cg p (dot r (prodM p A B n) j) (dot r (A.map fun a => [dot a B j]) 0)
  | [], A => by
    have z : ∀ (X : List Row) (k : Nat), dot [] X k = 0 := fun X k => by cases X <;> rfl
    rw [z, z]
    exact cg.refl _ _
  | c :: r, [] => by
    show cg p (dot (c :: r) [] j) (dot (c :: r) [] 0)
    rw [dot_nil, dot_nil]
    exact cg.refl _ _
  | c :: r, a :: A => by
    show cg p (c * ent (mixM p a B n) j + dot r (prodM p A B n) j) (c * ent [dot a B j] 0 + dot r (A.map fun a => [dot a B j]) 0)
    refine ((cg.refl p c).mul ?_).add (dot_rows hj)
    rw [mixM_ent hj]
    exact cg.emod _ _
/-- led by the one and then by the other: led by the product -/
theorem led_led (hp : 0 < p) {r : Row} {A B : List Row} (hA : ∀ a ∈ A, a.length = m) : mixM p (mixM p r A m) B n = mixM p r (prodM p A B n) n := by
  refine row_ext (p := p) (n := n) (mixM_wf hp) (mixM_wf hp) fun j hj => ?_
  rw [mixM_ent hj, mixM_ent hj]
  refine (cg.emod _ _).trans (((?_ : cg p (dot (mixM p r A m) B j) (dot ((List.range m).map fun i => dot r A i) B j)).trans ?_).trans (cg.emod _ _).symm)
  · refine dot_cong (fun i => ?_) (by rw [mixM_len, List.length_map, List.length_range])
    by_cases h : i < m
    · rw [mixM_ent h, ent_map h]
      exact cg.emod _ _
    · rw [ent_map_out h]
      have e : ent (mixM p r A m) i = 0 := by
        unfold mixM
        exact ent_map_out h
      rw [e]
      exact cg.refl _ _
  · rw [dot_dot hA]
    exact (dot_rows hj).symm
/-- the product: whichever two first -/
theorem prod_assoc (hp : 0 < p) {A B C : List Row} (hB : ∀ b ∈ B, b.length = m) : prodM p (prodM p A B m) C n = prodM p A (prodM p B C n) n := by
  unfold prodM
  rw [List.map_map]
  exact List.map_congr_left fun r _ => led_led hp hB
theorem plainM_len : (plainM n).length = n := by unfold plainM; rw [List.length_map, List.length_range]
theorem plainM_get {i : Nat} (h : i < n) : (plainM n)[i]? = some ((List.range n).map fun j => if i = j then (1 : Int) else 0) := by
  unfold plainM
  rw [List.getElem?_map, List.getElem?_range h]
  rfl
theorem plainM_wf (hp : 2 ≤ p) : ∀ r ∈ plainM n, Wf p n r := fun r hr => by
  obtain ⟨i, _, rfl⟩ := List.mem_map.mp hr
  refine ⟨by rw [List.length_map, List.length_range], fun x hx => ?_⟩
  obtain ⟨j, _, rfl⟩ := List.mem_map.mp hx
  split <;> omega
theorem dot_map : ∀ {r : List Int} {s : Nat} {k : Nat} {j : Nat} {f : Nat → Row}, r.length = k → (∀ i, s ≤ i → i < s + k → ent (f i) j = if i = j then 1 else 0) → dot r ((List.range' s k).map f) j = if s ≤ j ∧ j < s + k then ent r (j - s) else 0
  | [], s, k, j, f, h, _ => by
    subst h
    rw [if_neg (by show ¬ (s ≤ j ∧ j < s + 0); omega)]
    rfl
  | c :: r, s, k, j, f, h, e => by
    obtain ⟨k, rfl⟩ : ∃ k', k = k' + 1 := ⟨r.length, by simpa using h.symm⟩
    rw [List.range'_succ]
    show c * ent (f s) j + dot r ((List.range' (s + 1) k).map f) j = _
    rw [dot_map (by simpa using h) fun i h1 h2 => e i (by omega) (by omega), e s (Nat.le_refl _) (by omega)]
    by_cases h1 : s = j
    · subst h1
      rw [if_pos rfl, if_neg (by omega), if_pos (by omega), Nat.sub_self]
      show c * 1 + 0 = c
      omega
    · rw [if_neg h1]
      by_cases h2 : s + 1 ≤ j ∧ j < s + 1 + k
      · rw [if_pos h2, if_pos (by omega)]
        have : ent (c :: r) (j - s) = ent r (j - (s + 1)) := by
          rw [show j - s = (j - (s + 1)) + 1 by omega]
          rfl
        rw [this]
        omega
      · rw [if_neg h2, if_neg (by omega)]
        omega
/-- the plain table leads each row to itself -/
theorem led_plain (hp : 0 < p) {r : Row} (w : Wf p n r) : mixM p r (plainM n) n = r := by
  refine row_ext (mixM_wf hp) w fun j hj => ?_
  rw [mixM_ent hj]
  refine (cg.emod _ _).trans (cg.of_eq ?_)
  unfold plainM
  rw [show (List.range n) = List.range' 0 n from List.range_eq_range']
  rw [dot_map w.len (fun i _ h2 => by
    rw [show List.range' 0 n = List.range n from List.range_eq_range'.symm, ent_map hj]), if_pos (by omega), Nat.sub_zero]
theorem prod_plain (hp : 0 < p) {A : List Row} (w : ∀ r ∈ A, Wf p n r) : prodM p A (plainM n) n = A := by
  unfold prodM
  exact (List.map_congr_left fun r hr => led_plain hp (w r hr)).trans (List.map_id A)
theorem plain_prod (hp : 2 ≤ p) {A : List Row} (w : ∀ r ∈ A, Wf p n r) : prodM p (plainM A.length) A n = A := by
  refine List.ext_getElem? fun i => ?_
  by_cases h : i < A.length
  · unfold prodM
    rw [List.getElem?_map, plainM_get h, List.getElem?_eq_getElem h]
    show some _ = _
    congr 1
    have wi := w A[i] (List.getElem_mem h)
    refine row_ext (mixM_wf (by omega)) wi fun j hj => ?_
    rw [mixM_ent hj]
    refine (cg.emod _ _).trans (cg.of_eq ?_)
    -- the i-th row alone
    have key : ∀ (L : List Row) (s : Nat), s ≤ i → i < s + L.length → dot ((List.range' s L.length).map fun k => if i = k then (1 : Int) else 0) L j = ent (L.getD (i - s) []) j := by
      intro L
      induction L with
      | nil =>
        intro s h1 h2
        simp at h2
        omega
      | cons a L ih =>
        intro s h1 h2
        rw [List.length_cons, List.range'_succ]
        show (if i = s then (1 : Int) else 0) * ent a j + dot ((List.range' (s + 1) L.length).map fun k => if i = k then (1 : Int) else 0) L j = _
        by_cases e : i = s
        · rw [if_pos e, e, Nat.sub_self]
          have z : ∀ (M : List Row) (t : Nat), i < t → dot ((List.range' t M.length).map fun k => if i = k then (1 : Int) else 0) M j = 0 := by
            intro M
            induction M with
            | nil => intro t _; rfl
            | cons b M ihM =>
              intro t ht
              rw [List.length_cons, List.range'_succ]
              show (if i = t then (1 : Int) else 0) * ent b j + dot ((List.range' (t + 1) M.length).map fun k => if i = k then (1 : Int) else 0) M j = 0
              rw [if_neg (by omega), ihM (t + 1) (by omega)]
              omega
          rw [← e, z L (i + 1) (by omega)]
          show 1 * ent a j + 0 = ent a j
          omega
        · rw [if_neg e, ih (s + 1) (by omega) (by rw [List.length_cons] at h2; omega)]
          rw [show i - s = (i - (s + 1)) + 1 by omega]
          show 0 * ent a j + ent (L.getD (i - (s + 1)) []) j = ent (L.getD (i - (s + 1)) []) j
          omega
    rw [show List.range A.length = List.range' 0 A.length from List.range_eq_range', key A 0 (Nat.zero_le _) (by omega), Nat.sub_zero]
    congr 1
    rw [List.getD_eq_getElem?_getD, List.getElem?_eq_getElem h]
    rfl
  · rw [List.getElem?_eq_none (by rw [prodM_len, plainM_len]; omega), List.getElem?_eq_none (by omega)]
end
end My

/-! Tables: sums, multiples, turned. -/
namespace My
def addR (p : Int) (a b : Row) : Row := List.zipWith (fun x y => (x + y) % p) a b
def sumM (p : Int) (A B : List Row) : List Row := List.zipWith (addR p) A B
def scaM (p c : Int) (A : List Row) : List Row := A.map (mulR p c)
def trM (n : Nat) (A : List Row) : List Row := (List.range n).map fun j => A.map fun r => ent r j
section
variable {p : Int} {n : Nat}
theorem addR_get {x y : Int} {m bm : Row} {i : Nat} (h : m[i]? = some x) (h2 : bm[i]? = some y) : (addR p m bm)[i]? = some ((x + y) % p) := by
  unfold addR
  rw [List.getElem?_zipWith, h, h2]
theorem addR_wf (hp : 0 < p) {a b : Row} (ha : Wf p n a) (hb : Wf p n b) : Wf p n (addR p a b) := by
  refine ⟨by unfold addR; rw [List.length_zipWith, ha.len, hb.len, Nat.min_self], fun x hx => ?_⟩
  unfold addR at hx
  rw [List.mem_iff_getElem?] at hx
  obtain ⟨i, hi⟩ := hx
  rw [List.getElem?_zipWith] at hi
  split at hi
  · rw [← Option.some.inj hi]
    exact ⟨Int.emod_nonneg _ (by omega), Int.emod_lt_of_pos _ hp⟩
  · cases hi
theorem sumM_get {A B : List Row} {a b : Row} {i : Nat} (h : A[i]? = some a) (h2 : B[i]? = some b) : (sumM p A B)[i]? = some (addR p a b) := by
  unfold sumM
  rw [List.getElem?_zipWith, h, h2]
theorem sumM_len {A B : List Row} (h : A.length = B.length) : (sumM p A B).length = A.length := by unfold sumM; rw [List.length_zipWith, h, Nat.min_self]
theorem sumM_wf (hp : 0 < p) {A B : List Row} (hA : ∀ r ∈ A, Wf p n r) (hB : ∀ r ∈ B, Wf p n r) : ∀ r ∈ sumM p A B, Wf p n r := fun r hr => by
  rw [List.mem_iff_getElem?] at hr
  obtain ⟨i, hi⟩ := hr
  unfold sumM at hi
  rw [List.getElem?_zipWith] at hi
  cases ha : A[i]? with
  | none => rw [ha] at hi; cases hi
  | some a =>
    cases hb : B[i]? with
    | none => rw [ha, hb] at hi; cases hi
    | some b =>
      rw [ha, hb] at hi
      rw [← Option.some.inj hi]
      exact addR_wf hp (hA a (List.mem_of_getElem? ha)) (hB b (List.mem_of_getElem? hb))
theorem scaM_get {c : Int} {A : List Row} {a : Row} {i : Nat} (h : A[i]? = some a) : (scaM p c A)[i]? = some (mulR p c a) := by
  unfold scaM
  rw [List.getElem?_map, h]
  rfl
theorem scaM_len {c : Int} {A : List Row} : (scaM p c A).length = A.length := by unfold scaM; rw [List.length_map]
theorem scaM_wf (hp : 0 < p) {c : Int} {A : List Row} (hA : ∀ r ∈ A, Wf p n r) : ∀ r ∈ scaM p c A, Wf p n r := fun r hr => by
  obtain ⟨a, ha, rfl⟩ := List.mem_map.mp hr
  exact mulR_wf hp (hA a ha)
theorem trM_get {A : List Row} {i : Nat} (h : i < n) : (trM n A)[i]? = some (A.map fun r => ent r i) := by
  unfold trM
  rw [List.getElem?_map, List.getElem?_range h]
  rfl
theorem trM_len {A : List Row} : (trM n A).length = n := by unfold trM; rw [List.length_map, List.length_range]
theorem trM_wf {A : List Row} (hA : ∀ r ∈ A, Wf p n r) : ∀ r ∈ trM n A, Wf p A.length r := fun r hr => by
  obtain ⟨j, hj, rfl⟩ := List.mem_map.mp hr
  have hj2 := List.mem_range.mp hj
  refine ⟨by rw [List.length_map], fun x hx => ?_⟩
  obtain ⟨a, ha, rfl⟩ := List.mem_map.mp hx
  exact (hA a ha).ent hj2
theorem trM_ent {A : List Row} {i j : Nat} {a : Row} (hj : j < n) (h : A[i]? = some a) : ent ((trM n A).getD j []) i = ent a j := by
  rw [List.getD_eq_getElem?_getD, trM_get hj]
  show ent (A.map fun r => ent r j) i = ent a j
  unfold ent
  rw [List.getD_eq_getElem?_getD, List.getElem?_map, h]
  rfl
theorem trM_tr {A : List Row} (hA : ∀ r ∈ A, r.length = n) : trM A.length (trM n A) = A := by
  refine List.ext_getElem? fun i => ?_
  by_cases h : i < A.length
  · rw [trM_get h, List.getElem?_eq_getElem h]
    congr 1
    unfold trM
    rw [List.map_map]
    have e : ((fun r => ent r i) ∘ fun j => A.map fun r => ent r j) = fun j => ent A[i] j := by
      funext j
      show ent (A.map fun r => ent r j) i = ent A[i] j
      unfold ent
      rw [List.getD_eq_getElem?_getD, List.getElem?_map, List.getElem?_eq_getElem h]
      rfl
    rw [e, ← hA A[i] (List.getElem_mem h)]
    exact row_map
  · rw [List.getElem?_eq_none (by rw [trM_len]; omega), List.getElem?_eq_none (by omega)]
end
end My

/-! Tables: as many columns as rows. -/
namespace My
section
variable {p : Int} {n : Nat} {inv : Int → Int}
theorem up_sub_le {a b : List Nat} (ha : a.Pairwise (· < ·)) (hb : b.Pairwise (· < ·)) (h : ∀ x ∈ a, x ∈ b) : a.length ≤ b.length := by
  have e : b.filter (fun x => a.contains x) = a := sorted_eq (List.Pairwise.filter _ hb) ha fun x => by
    rw [List.mem_filter]
    constructor
    · intro h
      simpa using h.2
    · intro hx
      exact ⟨h x hx, by simpa using hx⟩
  have := List.length_filter_le (fun x => a.contains x) b
  rw [e] at this
  exact this
theorem low_le {F G : List Row} {ls ms : List Nat} (hp : 2 ≤ p) (hF : Low p n F ls) (hG : Low p n G ms) (h : ∀ r ∈ F, Spn p n G (ent r)) : F.length ≤ G.length := by
  have := up_sub_le hF.up hG.up (lead_in hp hF hG h)
  have a := hF.dl.1
  have b := hG.dl.1
  omega
theorem lowM_sub (hp : 2 ≤ p) (hv : InvOk p inv) {R S : List Row} (w : ∀ r ∈ R, Wf p n r) (w2 : ∀ r ∈ S, Wf p n r) (h : ∀ r ∈ R, Spn p n S (ent r)) : (lowM p inv R).length ≤ (lowM p inv S).length := by
  obtain ⟨l1, h1, t1, o1⟩ := lowM_ok hp hv w
  obtain ⟨l2, h2, t2, o2⟩ := lowM_ok hp hv w2
  exact low_le hp h1 h2 fun r hr => ((t1 r hr).mono h).mono o2
/-- a row of the span by the form -/
theorem low_mix (hp : 2 ≤ p) {F : List Row} {ls : List Nat} (L : Low p n F ls) {m : Row} (w : Wf p n m) (h : Spn p n F (ent m)) : mixM p (shr ls m) F n = m :=
  (mix_zero hp L w).mpr (spn_red L.dl L.lt h)
theorem dot_swap {a : Row} {A : List Row} {i j : Nat} (h : A[i]? = some a) : ∀ {ls : List Nat} {F : List Row}, dot (ls.map (ent a)) F j = dot (F.map fun r => ent r j) (ls.map fun l => A.map fun r => ent r l) i
  | [], F => by
    show dot [] F j = dot _ [] i
    rw [dot_nil]
    cases F <;> rfl
  | l :: ls, [] => by
    show dot _ [] j = dot [] _ i
    rw [dot_nil]
    rfl
  | l :: ls, f :: F => by
    show ent a l * ent f j + dot (ls.map (ent a)) F j = ent f j * ent (A.map fun r => ent r l) i + dot (F.map fun r => ent r j) (ls.map fun l => A.map fun r => ent r l) i
    rw [dot_swap h (ls := ls) (F := F)]
    have e : ent (A.map fun r => ent r l) i = ent a l := by
      show (A.map fun r => ent r l).getD i 0 = _
      rw [List.getD_eq_getElem?_getD, List.getElem?_map, h]
      rfl
    rw [e, Int.mul_comm]
theorem rank_le (hp : 2 ≤ p) (hv : InvOk p inv) {A : List Row} (w : ∀ r ∈ A, Wf p n r) : (lowM p inv (trM n A)).length ≤ (lowM p inv A).length := by
  obtain ⟨ls, L, t, o⟩ := lowM_ok hp hv w
  have wS : ∀ r ∈ (ls.map fun l => A.map fun r => ent r l), Wf p A.length r := fun r hr => by
    obtain ⟨l, hl, rfl⟩ := List.mem_map.mp hr
    have := trM_wf w (n := n) (p := p) (A.map fun r => ent r l) (by unfold trM; exact List.mem_map.mpr ⟨l, List.mem_range.mpr (L.lt l hl), rfl⟩)
    exact this
  have h : ∀ r ∈ trM n A, Spn p A.length (ls.map fun l => A.map fun r => ent r l) (ent r) := fun r hr => by
    obtain ⟨j, hj, rfl⟩ := List.mem_map.mp hr
    have hj2 := List.mem_range.mp hj
    refine (dot_spn (p := p) (n := A.length) ((lowM p inv A).map fun r => ent r j) (ls.map fun l => A.map fun r => ent r l) fun r hr => hr).cong fun i hi => ?_
    have ha : A[i]? = some A[i] := List.getElem?_eq_getElem hi
    have wa := w A[i] (List.getElem_mem hi)
    have e := low_mix hp L wa (o A[i] (List.getElem_mem hi))
    have e2 : ent (A.map fun r => ent r j) i = ent A[i] j := by
      show (A.map fun r => ent r j).getD i 0 = _
      rw [List.getD_eq_getElem?_getD, List.getElem?_map, ha]
      rfl
    have e3 : ent A[i] j = dot (shr ls A[i]) (lowM p inv A) j % p := by
      have := mixM_ent (p := p) (cs := shr ls A[i]) (rows := lowM p inv A) hj2
      rw [e] at this
      exact this
    rw [e2, e3]
    refine (cg.emod _ _).trans (cg.of_eq ?_)
    exact dot_swap ha
  have a := lowM_sub hp hv (trM_wf w) wS h
  have b := lowM_le (p := p) (inv := inv) (ls.map fun l => A.map fun r => ent r l)
  rw [List.length_map] at b
  have c := L.dl.1
  omega
/-- as many columns as rows -/
theorem rank_tr (hp : 2 ≤ p) (hv : InvOk p inv) {A : List Row} (w : ∀ r ∈ A, Wf p n r) : (lowM p inv (trM n A)).length = (lowM p inv A).length := by
  have a := rank_le hp hv w
  have b := rank_le hp hv (trM_wf w)
  rw [trM_tr fun r hr => (w r hr).len] at b
  omega
theorem lowM_few (hp : 2 ≤ p) (hv : InvOk p inv) {A : List Row} (w : ∀ r ∈ A, Wf p n r) : (lowM p inv A).length ≤ n := by
  obtain ⟨ls, L, _⟩ := lowM_ok hp hv w
  exact low_few L
/-- the form of what a table leads to nought -/
structure Nought (p : Int) (inv : Int → Int) (n : Nat) (A N : List Row) : Prop where
  low : ∃ ls, Low p A.length N ls
  len : N.length + (lowM p inv A).length = A.length
  zero : ∀ x ∈ N, mixM p x A n = zeros n
  all : ∀ x, Wf p A.length x → mixM p x A n = zeros n → Spn p A.length N (ent x)
theorem led_orth (hp : 2 ≤ p) {A : List Row} {x : Row} (wx : Wf p A.length x) : mixM p x A n = zeros n ↔ ∀ r ∈ trM n A, Orth p A.length (ent x) (ent r) := by
  constructor
  · intro h r hr
    obtain ⟨j, hj, rfl⟩ := List.mem_map.mp hr
    have hj2 := List.mem_range.mp hj
    have e := mixM_ent (p := p) (cs := x) (rows := A) hj2
    rw [h, zeros_ent, dot_dsum j wx.len] at e
    show cg p _ 0
    exact (cg.emod p _).symm.trans (cg.of_eq e.symm)
  · intro h
    refine row_ext (mixM_wf (by omega)) (zeros_wf (by omega)) fun j hj => ?_
    have o := h (A.map fun r => ent r j) (by unfold trM; exact List.mem_map.mpr ⟨j, List.mem_range.mpr hj, rfl⟩)
    rw [mixM_ent hj, zeros_ent, dot_dsum j wx.len]
    exact (cg.emod _ _).trans o
theorem nought_ok (hp : 2 ≤ p) (hv : InvOk p inv) {A : List Row} (w : ∀ r ∈ A, Wf p n r) {ls : List Nat} (L : Low p A.length (lowM p inv (trM n A)) ls) : Nought p inv n A (acM p inv A.length (lowM p inv (trM n A)) ls) := by
  obtain ⟨ms, LM, len, orth, all⟩ := acM_ok hp hv L
  obtain ⟨l2, L2, t, o⟩ := lowM_ok hp hv (trM_wf w (n := n))
  refine ⟨⟨ms, LM⟩, ?_, fun x hx => ?_, fun x wx hx => ?_⟩
  · have a := rank_tr hp hv w
    have b := low_few L
    omega
  · refine (led_orth hp (LM.wf x hx)).mpr fun r hr => ?_
    exact (Orth.spn (R := lowM p inv (trM n A)) (fun s hs => (orth s hs x hx).comm) (o r hr)).comm
  · refine all _ fun r hr => ?_
    have h := (led_orth hp wx).mp hx
    exact (Orth.spn (R := trM n A) (fun s hs => (h s hs).comm) (t r hr)).comm
end
end My

/-! Polynomials by a prime: what is left, the greatest common one. -/
namespace My
def shf (i : Nat) (g : Nat → Int) : Nat → Int := fun k => if i ≤ k then g (k - i) else 0
/-- one step: the place i + m - 1 is cleared by the i-th shift of g -/
def est (m : Nat) (g : Nat → Int) (i : Nat) (f : Nat → Int) : Nat → Int := fun k => f k - f (i + m - 1) * shf i g k
def rm (m : Nat) (g : Nat → Int) : Nat → (Nat → Int) → Nat → Int
  | 0, f => f
  | d + 1, f => rm m g d (est m g d f)
structure Mon (g : Nat → Int) (m : Nat) : Prop where
  pos : 1 ≤ m
  one : g (m - 1) = 1
  hi : ∀ k, m ≤ k → g k = 0
def Zf (p : Int) (f : Nat → Int) : Prop := ∀ k, cg p (f k) 0
section
variable {p : Int} {m : Nat} {g : Nat → Int}
theorem rm_lin (c : Int) : ∀ (d : Nat) (u v : Nat → Int) (k : Nat), rm m g d (fun j => u j + c * v j) k = rm m g d u k + c * rm m g d v k
  | 0, u, v, k => rfl
  | d + 1, u, v, k => by
    have e : est m g d (fun j => u j + c * v j) = fun j => est m g d u j + c * est m g d v j := by
      funext j
      show (u j + c * v j) - (u (d + m - 1) + c * v (d + m - 1)) * shf d g j = (u j - u (d + m - 1) * shf d g j) + c * (v j - v (d + m - 1) * shf d g j)
      grind
    show rm m g d (est m g d (fun j => u j + c * v j)) k = _
    rw [e, rm_lin c d]
    rfl
theorem rm_zero : ∀ (d : Nat) {f : Nat → Int}, Zf p f → Zf p (rm m g d f)
  | 0, f, h => h
  | d + 1, f, h => rm_zero d fun k => by
    have := (h k).sub ((h (d + m - 1)).mul (cg.refl p (shf d g k)))
    exact this.trans (cg.of_eq (by omega))
theorem rm_cong {d : Nat} {u v : Nat → Int} (h : ∀ k, cg p (u k) (v k)) (k : Nat) : cg p (rm m g d u k) (rm m g d v k) := by
  have z : Zf p (rm m g d (fun j => u j + (-1) * v j)) := rm_zero d fun j => by
    have := (h j).add (cg.refl p ((-1) * v j))
    exact this.trans (cg.of_eq (by omega))
  have a := z k
  rw [rm_lin (-1) d u v] at a
  have := a.add (cg.refl p (rm m g d v k))
  exact (cg.of_eq (by omega)).trans (this.trans (cg.of_eq (by omega)))
theorem rm_keep : ∀ (d : Nat) {f : Nat → Int}, (∀ k, m - 1 ≤ k → cg p (f k) 0) → ∀ k, cg p (rm m g d f k) (f k)
  | 0, f, _, k => cg.refl _ _
  | d + 1, f, h, k => by
    have e : ∀ j, cg p (est m g d f j) (f j) := fun j => by
      have := (cg.refl p (f j)).sub ((h (d + m - 1) (by omega)).mul (cg.refl p (shf d g j)))
      exact this.trans (cg.of_eq (by omega))
    exact (rm_keep d (fun j hj => (e j).trans (h j hj)) k).trans (e k)
theorem rm_shift (M : Mon g m) : ∀ (d i : Nat), i < d → Zf p (rm m g d (shf i g))
  | 0, i, h => absurd h (Nat.not_lt_zero _)
  | d + 1, i, h => by
    have mp := M.pos
    by_cases e : i = d
    · subst e
      refine rm_zero i fun k => cg.of_eq ?_
      have t : shf i g (i + m - 1) = 1 := by
        unfold shf
        rw [if_pos (by omega), show i + m - 1 - i = m - 1 by omega]
        exact M.one
      show shf i g k - shf i g (i + m - 1) * shf i g k = 0
      rw [t]
      omega
    · have t : shf i g (d + m - 1) = 0 := by
        unfold shf
        rw [if_pos (by omega)]
        exact M.hi _ (by omega)
      have e2 : est m g d (shf i g) = shf i g := by
        funext k
        show shf i g k - shf i g (d + m - 1) * shf d g k = _
        rw [t]
        omega
      show Zf p (rm m g d (est m g d (shf i g)))
      rw [e2]
      exact rm_shift M d i (by omega)
theorem est_high (M : Mon g m) {d : Nat} {f : Nat → Int} (h : ∀ k, d + 1 + m - 1 ≤ k → cg p (f k) 0) : ∀ k, d + m - 1 ≤ k → cg p (est m g d f k) 0 := fun k hk => by
  have mp := M.pos
  by_cases e : k = d + m - 1
  · have t : shf d g k = 1 := by
      unfold shf
      rw [if_pos (by omega), show k - d = m - 1 by omega]
      exact M.one
    refine cg.of_eq ?_
    show f k - f (d + m - 1) * shf d g k = 0
    rw [t, e]
    omega
  · have t : shf d g k = 0 := by
      unfold shf
      rw [if_pos (by omega)]
      exact M.hi _ (by omega)
    have e2 : est m g d f k = f k := by
      show f k - f (d + m - 1) * shf d g k = f k
      rw [t]
      omega
    rw [e2]
    exact h k (by omega)
theorem rm_high (M : Mon g m) : ∀ (d : Nat) {f : Nat → Int}, (∀ k, d + m - 1 ≤ k → cg p (f k) 0) → ∀ k, m - 1 ≤ k → cg p (rm m g d f k) 0
  | 0, f, h, k, hk => h k (by omega)
  | d + 1, f, h, k, hk => rm_high M d (est_high M h) k hk
theorem rm_more {d : Nat} {f : Nat → Int} (mp : 1 ≤ m) (h : ∀ k, d + m - 1 ≤ k → cg p (f k) 0) : ∀ e k, cg p (rm m g (d + e) f k) (rm m g d f k)
  | 0, k => cg.refl _ _
  | e + 1, k => by
    have s : ∀ j, cg p (est m g (d + e) f j) (f j) := fun j => by
      have := (cg.refl p (f j)).sub ((h (d + e + m - 1) (by omega)).mul (cg.refl p (shf (d + e) g j)))
      exact this.trans (cg.of_eq (by omega))
    exact (rm_cong (d := d + e) s k).trans (rm_more mp h e k)
/-- a multiple of g, by shifts below N -/
inductive Mu (p : Int) (g : Nat → Int) (N : Nat) : (Nat → Int) → Prop
  | zero {f} (h : Zf p f) : Mu p g N f
  | add {u f} (c : Int) (i : Nat) (hi : i < N) (hu : Mu p g N u) (h : ∀ k, cg p (f k) (u k + c * shf i g k)) : Mu p g N f
theorem Mu.cong {N : Nat} {u v : Nat → Int} (h : Mu p g N u) (e : ∀ k, cg p (v k) (u k)) : Mu p g N v := by
  cases h with
  | zero h => exact .zero fun k => (e k).trans (h k)
  | add c i hi hu h => exact .add c i hi hu fun k => (e k).trans (h k)
theorem Mu.mono {N M : Nat} (l : N ≤ M) {f : Nat → Int} (h : Mu p g N f) : Mu p g M f := by
  induction h with
  | zero h => exact .zero h
  | add c i hi _ h ih => exact .add c i (by omega) ih h
theorem Mu.lin {N : Nat} (c : Int) {u v : Nat → Int} (hu : Mu p g N u) (hv : Mu p g N v) : Mu p g N (fun k => u k + c * v k) := by
  induction hv with
  | zero h =>
    refine hu.cong fun k => ?_
    have := (cg.refl p (u k)).add ((cg.refl p c).mul (h k))
    exact this.trans (cg.of_eq (by omega))
  | add d i hi _ h ih =>
    refine .add (c * d) i hi ih fun k => ?_
    have := (cg.refl p (u k)).add ((cg.refl p c).mul (h k))
    exact this.trans (cg.of_eq (by grind))
theorem shf_shf (i j : Nat) (k : Nat) : shf i (shf j g) k = shf (i + j) g k := by
  unfold shf
  by_cases h : i ≤ k
  · rw [if_pos h]
    by_cases h2 : j ≤ k - i
    · rw [if_pos h2, if_pos (by omega), show k - i - j = k - (i + j) by omega]
    · rw [if_neg h2, if_neg (by omega)]
  · rw [if_neg h, if_neg (by omega)]
theorem Mu.shf {N : Nat} (i : Nat) {f : Nat → Int} (h : Mu p g N f) : Mu p g (N + i) (My.shf i f) := by
  induction h with
  | zero h =>
    refine .zero fun k => ?_
    unfold My.shf
    split
    · exact h _
    · exact cg.refl _ _
  | @add u f c j hj _ e ih =>
    refine .add c (i + j) (by omega) ih fun k => ?_
    rw [← shf_shf i j k]
    unfold My.shf
    split
    · exact e _
    · exact cg.of_eq (by omega)
theorem Mu.trans {G : Nat → Int} {N M : Nat} {f : Nat → Int} (h : Mu p g N f) (hg : Mu p G M g) : Mu p G (M + N) f := by
  induction h with
  | zero h => exact .zero h
  | add c i hi _ e ih => exact (ih.lin c ((hg.shf i).mono (by omega))).cong e
theorem mu_rm (M : Mon g m) {N d : Nat} (l : N ≤ d) {f : Nat → Int} (h : Mu p g N f) : Zf p (rm m g d f) := by
  induction h with
  | zero h => exact rm_zero d h
  | @add u f c i hi _ e ih =>
    have z := rm_shift (p := p) M d i (by omega)
    have a : Zf p (rm m g d (fun k => u k + c * My.shf i g k)) := fun k => by
      rw [rm_lin c d]
      have := (ih k).add ((cg.refl p c).mul (z k))
      exact this.trans (cg.of_eq (by omega))
    exact fun k => (rm_cong e k).trans (a k)
theorem rm_mu : ∀ (d : Nat) (f : Nat → Int), Mu p g d (fun k => f k - rm m g d f k)
  | 0, f => .zero fun k => cg.of_eq (by show f k - f k = 0; omega)
  | d + 1, f => by
    have ih := (rm_mu d (est m g d f)).mono (Nat.le_succ d)
    refine .add (f (d + m - 1)) d (Nat.lt_succ_self d) ih fun k => cg.of_eq ?_
    show f k - rm m g d (est m g d f) k = (f k - f (d + m - 1) * shf d g k - rm m g d (est m g d f) k) + f (d + m - 1) * shf d g k
    omega
/-! ### lists -/
structure Pol (p : Int) (a : Row) : Prop where
  rng : ∀ x ∈ a, 0 ≤ x ∧ x < p
  last : a ≠ [] → ent a (a.length - 1) ≠ 0
theorem ent_out {a : Row} {k : Nat} (h : a.length ≤ k) : ent a k = 0 := by
  unfold ent
  rw [List.getD_eq_getElem?_getD, List.getElem?_eq_none h]
  rfl
theorem ent_rng {a : Row} (hp : 0 < p) (h : ∀ x ∈ a, 0 ≤ x ∧ x < p) (k : Nat) : 0 ≤ ent a k ∧ ent a k < p := by
  by_cases l : k < a.length
  · exact h _ (ent_mem l)
  · rw [ent_out (by omega)]
    omega
theorem ne_nil_len {a : Row} : a ≠ [] ↔ 0 < a.length := by
  cases a with
  | nil => simp
  | cons x a => simp
theorem pol_le (hp : 0 < p) {a b : Row} (B : Pol p b) (h : ∀ k, cg p (ent a k) (ent b k)) (A : ∀ x ∈ a, 0 ≤ x ∧ x < p) : b.length ≤ a.length := by
  refine Classical.byContradiction fun c => ?_
  have nb : b ≠ [] := ne_nil_len.mpr (by omega)
  have e := h (b.length - 1)
  rw [ent_out (a := a) (by omega)] at e
  have r := ent_rng hp B.rng (b.length - 1)
  exact B.last nb (e.eq (by omega) (by omega) r.1 r.2).symm
theorem pol_ext (hp : 0 < p) {a b : Row} (A : Pol p a) (B : Pol p b) (h : ∀ k, cg p (ent a k) (ent b k)) : a = b := by
  have l1 := pol_le hp B h A.rng
  have l2 := pol_le hp A (fun k => (h k).symm) B.rng
  have len : a.length = b.length := by omega
  refine List.ext_getElem? fun k => ?_
  by_cases hk : k < a.length
  · rw [ent_some hk, ent_some (by omega)]
    have r1 := ent_rng hp A.rng k
    have r2 := ent_rng hp B.rng k
    rw [(h k).eq r1.1 r1.2 r2.1 r2.2]
  · rw [List.getElem?_eq_none (by omega), List.getElem?_eq_none (by omega)]
def lastE (a : Row) : Int := ent a (a.length - 1)
theorem last_rng (hp : 0 < p) {a : Row} (A : Pol p a) (h : a ≠ []) : 0 < lastE a ∧ lastE a < p := by
  have r := ent_rng hp A.rng (a.length - 1)
  have n := A.last h
  unfold lastE
  omega
theorem mulR_length {c : Int} {a : Row} : (mulR p c a).length = a.length := by
  unfold mulR
  rw [List.length_map]
theorem mulR_cg {c : Int} {a : Row} (k : Nat) : cg p (ent (mulR p c a) k) (c * ent a k) := by
  by_cases h : k < a.length
  · have e := ent_some (r := mulR p c a) (j := k) (by rw [mulR_length]; exact h)
    unfold mulR at e
    rw [List.getElem?_map, ent_some h] at e
    have e2 : c * ent a k % p = ent (mulR p c a) k := Option.some.inj e
    rw [← e2]
    exact cg.emod _ _
  · rw [ent_out (by rw [mulR_length]; omega), ent_out (by omega)]
    exact cg.of_eq (by omega)
theorem mulR_rng (hp : 0 < p) {c : Int} {a : Row} : ∀ x ∈ mulR p c a, 0 ≤ x ∧ x < p := fun x hx => by
  obtain ⟨y, _, rfl⟩ := List.mem_map.mp hx
  exact ⟨Int.emod_nonneg _ (by omega), Int.emod_lt_of_pos _ hp⟩
theorem unit_ne (h5 : P5 p) {c x : Int} (hc : 0 < c) (hc2 : c < p) (hx : 0 < x) (hx2 : x < p) : ¬ cg p (c * x) 0 := fun h => by
  have two := h5.two
  have i := inv_is h5 c hc hc2
  have a : cg p (invM p c * (c * x)) 0 := ((cg.refl p (invM p c)).mul h).trans (cg.of_eq (by omega))
  have b : cg p (invM p c * c * x) (1 * x) := ((cg.emod p _).symm.trans (cg.of_eq i)).mul (cg.refl p x)
  have e : cg p x 0 := ((cg.of_eq (by omega)).trans b.symm).trans ((cg.of_eq (by grind)).trans a)
  have := e.eq (by omega) hx2 (by omega) (by omega)
  omega
theorem mulR_pol (h5 : P5 p) {c : Int} (hc : 0 < c) (hc2 : c < p) {a : Row} (A : Pol p a) : Pol p (mulR p c a) := by
  have two := h5.two
  refine ⟨mulR_rng (by omega), fun hn z => ?_⟩
  have na : a ≠ [] := fun e => hn (by rw [e]; rfl)
  have r := last_rng (by omega) A na
  rw [mulR_length] at z
  have e := mulR_cg (p := p) (c := c) (a := a) (a.length - 1)
  rw [z] at e
  exact unit_ne h5 hc hc2 r.1 r.2 e.symm
/-- the multiple whose last rest is 1 -/
def mon (p : Int) (a : Row) : Row := if a = [] then [] else mulR p (invM p (lastE a)) a
theorem mon_nil : mon p [] = [] := rfl
theorem mon_of {a : Row} (h : a ≠ []) : mon p a = mulR p (invM p (lastE a)) a := if_neg h
theorem mon_len {a : Row} : (mon p a).length = a.length := by
  by_cases h : a = []
  · rw [h]
    rfl
  · rw [mon_of h, mulR_length]
theorem mon_inv (h5 : P5 p) {a : Row} (A : Pol p a) (h : a ≠ []) : 0 < invM p (lastE a) ∧ invM p (lastE a) < p ∧ invM p (lastE a) * lastE a % p = 1 := by
  have two := h5.two
  have r := last_rng (by omega) A h
  obtain ⟨i1, i2, i3⟩ := inv_ok h5 r.1 r.2
  exact ⟨i1, i2, inv_is h5 _ r.1 r.2⟩
theorem mon_pol (h5 : P5 p) {a : Row} (A : Pol p a) : Pol p (mon p a) := by
  by_cases h : a = []
  · rw [h]
    exact ⟨fun x hx => by simp [mon] at hx, fun h => absurd rfl h⟩
  · rw [mon_of h]
    have i := mon_inv h5 A h
    exact mulR_pol h5 i.1 i.2.1 A
theorem mon_last (h5 : P5 p) {a : Row} (A : Pol p a) (h : a ≠ []) : ent (mon p a) (a.length - 1) = 1 := by
  have two := h5.two
  have i := mon_inv h5 A h
  have e := mulR_cg (p := p) (c := invM p (lastE a)) (a := a) (a.length - 1)
  rw [← mon_of h] at e
  have r := ent_rng (show 0 < p by omega) (mon_pol h5 A).rng (a.length - 1)
  exact (e.trans ((cg.emod p _).symm.trans (cg.of_eq i.2.2))).eq r.1 r.2 (by omega) (by omega)
theorem mon_mon (h5 : P5 p) {a : Row} (A : Pol p a) (h : a ≠ []) : Mon (ent (mon p a)) a.length :=
  ⟨ne_nil_len.mp h, mon_last h5 A h, fun k hk => ent_out (by rw [mon_len]; exact hk)⟩
theorem mon_scale (h5 : P5 p) {c : Int} (hc : 0 < c) (hc2 : c < p) {a : Row} (A : Pol p a) : mon p (mulR p c a) = mon p a := by
  have two := h5.two
  have B := mulR_pol h5 hc hc2 A
  by_cases h : a = []
  · rw [h]
    rfl
  · have hb : mulR p c a ≠ [] := ne_nil_len.mpr (by rw [mulR_length]; exact ne_nil_len.mp h)
    refine pol_ext (by omega) (mon_pol h5 B) (mon_pol h5 A) fun k => ?_
    have iA := mon_inv h5 A h
    have iB := mon_inv h5 B hb
    have eA := mulR_cg (p := p) (c := invM p (lastE a)) (a := a) k
    have eB := mulR_cg (p := p) (c := invM p (lastE (mulR p c a))) (a := mulR p c a) k
    rw [← mon_of h] at eA
    rw [← mon_of hb] at eB
    -- x * c * last = 1 and y * last = 1: so x * c = y
    generalize invM p (lastE (mulR p c a)) = x at *
    generalize invM p (lastE a) = y at *
    have l : cg p (lastE (mulR p c a)) (c * lastE a) := by
      unfold lastE
      rw [mulR_length]
      exact mulR_cg _
    have h1 : cg p (x * (c * lastE a)) 1 := (((cg.refl p x).mul l).symm.trans (cg.emod p _).symm).trans (cg.of_eq iB.2.2)
    have h2 : cg p (y * lastE a) 1 := (cg.emod p _).symm.trans (cg.of_eq iA.2.2)
    have xy : cg p (x * c) y := by
      have a1 : cg p (x * c * (y * lastE a)) (x * c * 1) := (cg.refl p _).mul h2
      have a2 : cg p (y * (x * (c * lastE a))) (y * 1) := (cg.refl p _).mul h1
      exact ((cg.of_eq (by omega)).trans a1.symm).trans ((cg.of_eq (by grind)).trans (a2.trans (cg.of_eq (by omega))))
    have b1 : cg p (ent (mon p (mulR p c a)) k) (x * (c * ent a k)) := eB.trans ((cg.refl p x).mul (mulR_cg k))
    exact b1.trans ((cg.of_eq (by grind)).trans ((xy.mul (cg.refl p (ent a k))).trans eA.symm))
/-- r is what is left of a by b -/
structure Rem (p : Int) (a b r : Row) : Prop where
  pol : Pol p r
  is : ∀ k, cg p (ent r k) (rm b.length (ent (mon p b)) (a.length + 1 - b.length) (ent a) k)
theorem rem_len (h5 : P5 p) {a b r : Row} (B : Pol p b) (hb : b ≠ []) (R : Rem p a b r) : r.length < b.length := by
  have two := h5.two
  refine Classical.byContradiction fun c => ?_
  have lb := ne_nil_len.mp hb
  have hr : r ≠ [] := ne_nil_len.mpr (by omega)
  have z := rm_high (p := p) (mon_mon h5 B hb) (a.length + 1 - b.length) (f := ent a) (fun k hk => cg.of_eq (ent_out (by omega))) (r.length - 1) (by omega)
  have e := (R.is (r.length - 1)).trans z
  have rr := last_rng (by omega) R.pol hr
  have := e.eq (by unfold lastE at rr; omega) (by unfold lastE at rr; omega) (Int.le_refl _) (by omega)
  exact R.pol.last hr this
theorem rem_unique (hp : 0 < p) {a b r s : Row} (R : Rem p a b r) (S : Rem p a b s) : r = s := pol_ext hp R.pol S.pol fun k => (R.is k).trans (S.is k).symm
/-- Euclid's way -/
inductive Euc (p : Int) : Row → Row → Row → Prop
  | base (a : Row) : Euc p a [] (mon p a)
  | step {a b r g : Row} (hb : b ≠ []) (R : Rem p a b r) (E : Euc p b r g) : Euc p a b g
theorem Euc.one (h5 : P5 p) {a b g : Row} (E : Euc p a b g) : Pol p a → Pol p b → (a ≠ [] ∨ b ≠ []) → g ≠ [] ∧ Pol p g ∧ ent g (g.length - 1) = 1 := by
  induction E with
  | base a =>
    intro A _ h
    have ha : a ≠ [] := h.resolve_right fun n => n rfl
    refine ⟨ne_nil_len.mpr (by rw [mon_len]; exact ne_nil_len.mp ha), mon_pol h5 A, ?_⟩
    rw [mon_len]
    exact mon_last h5 A ha
  | step hb R _ ih =>
    intro _ B _
    exact ih B R.pol (.inl hb)
/-- it divides both -/
theorem Euc.div (h5 : P5 p) {a b g : Row} (E : Euc p a b g) : Pol p a → Pol p b → (∃ N, Mu p (ent g) N (ent a)) ∧ ∃ N, Mu p (ent g) N (ent b) := by
  have two := h5.two
  induction E with
  | base a =>
    intro A _
    refine ⟨⟨1, ?_⟩, 0, .zero fun k => cg.of_eq (ent_out (Nat.zero_le _))⟩
    by_cases h : a = []
    · rw [h]
      exact .zero fun k => cg.of_eq (ent_out (Nat.zero_le _))
    · refine .add (lastE a) 0 (Nat.lt_succ_self 0) (.zero (f := fun _ => 0) fun _ => cg.refl _ _) fun k => ?_
      have i := mon_inv h5 A h
      have e := mulR_cg (p := p) (c := invM p (lastE a)) (a := a) k
      rw [← mon_of h] at e
      have s : shf 0 (ent (mon p a)) k = ent (mon p a) k := by
        unfold shf
        rw [if_pos (Nat.zero_le _), Nat.sub_zero]
      rw [s]
      have h1 : cg p (invM p (lastE a) * lastE a) 1 := (cg.emod p _).symm.trans (cg.of_eq i.2.2)
      have h2 : cg p (lastE a * ent (mon p a) k) (lastE a * (invM p (lastE a) * ent a k)) := (cg.refl p _).mul e
      have h3 := h1.mul (cg.refl p (ent a k))
      exact ((cg.of_eq (by omega)).trans h3.symm).trans ((cg.of_eq (by grind)).trans (h2.symm.trans (cg.of_eq (by omega))))
  | @step a b r g hb R E ih =>
    intro A B
    obtain ⟨⟨N1, m1⟩, N2, m2⟩ := ih B R.pol
    refine ⟨?_, N1, m1⟩
    have d := rm_mu (p := p) (m := b.length) (g := ent (mon p b)) (a.length + 1 - b.length) (ent a)
    -- mon b is a multiple of b
    have mb : Mu p (ent b) 1 (ent (mon p b)) := by
      refine .add (invM p (lastE b)) 0 (Nat.lt_succ_self 0) (.zero (f := fun _ => 0) fun _ => cg.refl _ _) fun k => ?_
      have e := mulR_cg (p := p) (c := invM p (lastE b)) (a := b) k
      rw [← mon_of hb] at e
      have s : shf 0 (ent b) k = ent b k := by
        unfold shf
        rw [if_pos (Nat.zero_le _), Nat.sub_zero]
      rw [s]
      exact e.trans (cg.of_eq (by omega))
    have d2 := (d.trans mb).trans m1
    refine ⟨N1 + (1 + (a.length + 1 - b.length)) + N2, ?_⟩
    have s := (d2.mono (M := N1 + (1 + (a.length + 1 - b.length)) + N2) (by omega)).lin 1 (m2.mono (M := N1 + (1 + (a.length + 1 - b.length)) + N2) (by omega))
    refine s.cong fun k => ?_
    have e := R.is k
    have := (cg.refl p (ent a k - rm b.length (ent (mon p b)) (a.length + 1 - b.length) (ent a) k)).add e.symm
    exact (cg.of_eq (by omega)).trans (this.trans (cg.of_eq (by omega)))
/-- by a list with 1 as its last rest a multiple of it leaves nought -/
theorem mu_left {g a : Row} (hg : 0 < g.length) (g1 : ent g (g.length - 1) = 1) {N : Nat} (h : Mu p (ent g) N (ent a)) : Zf p (rm g.length (ent g) (a.length + 1 - g.length) (ent a)) := by
  have M : Mon (ent g) g.length := ⟨hg, g1, fun k hk => ent_out hk⟩
  have z := mu_rm M (d := a.length + 1 - g.length + N) (by omega) h
  have e := rm_more (p := p) (g := ent g) (m := g.length) (d := a.length + 1 - g.length) (f := ent a) hg (fun k hk => cg.of_eq (ent_out (by omega))) N
  exact fun k => (e k).symm.trans (z k)
theorem mon_self (h5 : P5 p) {g : Row} (G : Pol p g) (hg : g ≠ []) (g1 : ent g (g.length - 1) = 1) : mon p g = g := by
  have two := h5.two
  refine pol_ext (by omega) (mon_pol h5 G) G fun k => ?_
  rw [mon_of hg]
  have e : lastE g = 1 := g1
  have i : invM p 1 = 1 := by
    obtain ⟨_, _, c⟩ := inv_ok h5 (r := 1) (by omega) (by omega)
    exact ((c 1 (by omega) (by omega)).mp (by rw [Int.mul_one]; exact Int.emod_eq_of_lt (by omega) (by omega))).symm
  rw [e, i]
  exact (mulR_cg k).trans (cg.of_eq (by omega))
theorem rem_scale (h5 : P5 p) {c : Int} (hc : 0 < c) (hc2 : c < p) {a b r s : Row} (R : Rem p a b r) (S : Pol p s) (h : ∀ k, cg p (ent s k) (rm b.length (ent (mon p b)) (a.length + 1 - b.length) (ent (mulR p c a)) k)) : s = mulR p c r := by
  have two := h5.two
  refine pol_ext (by omega) S (mulR_pol h5 hc hc2 R.pol) fun k => ?_
  refine (h k).trans ?_
  have e1 := rm_cong (p := p) (m := b.length) (g := ent (mon p b)) (d := a.length + 1 - b.length) (u := ent (mulR p c a)) (v := fun j => (fun _ => (0 : Int)) j + c * ent a j) (fun j => (mulR_cg j).trans (cg.of_eq (by show c * ent a j = (0 : Int) + c * ent a j; omega))) k
  rw [rm_lin c] at e1
  have z : cg p (rm b.length (ent (mon p b)) (a.length + 1 - b.length) (fun _ => (0 : Int)) k) 0 := rm_zero (p := p) _ (fun _ => cg.refl _ _) k
  have e2 := z.add ((cg.refl p c).mul (R.is k).symm)
  exact (e1.trans e2).trans ((cg.of_eq (by omega)).trans (mulR_cg k).symm)
theorem mulR_one {a : Row} (h : ∀ x ∈ a, 0 ≤ x ∧ x < p) : mulR p 1 a = a := by
  unfold mulR
  refine (List.map_congr_left fun x hx => ?_).trans (List.map_id a)
  rw [Int.one_mul]
  exact Int.emod_eq_of_lt (h x hx).1 (h x hx).2
end
end My

namespace My
/-- products: the sum over j < n of u j times g moved by j -/
def cnvN : Nat → (Nat → Int) → (Nat → Int) → Nat → Int
  | 0, _, _ => fun _ => 0
  | n + 1, u, g => fun k => cnvN n u g k + u n * shf n g k
theorem cnvN_zero {p : Int} {u g : Nat → Int} (h : ∀ k, cg p (g k) 0) : ∀ n k, cg p (cnvN n u g k) 0
  | 0, k => cg.refl p 0
  | n + 1, k => by
    have i := cnvN_zero (u := u) h n k
    have s : cg p (shf n g k) 0 := by
      unfold shf
      split
      · exact h _
      · exact cg.refl p 0
    exact (i.add ((cg.refl p (u n)).mul s)).trans (cg.of_eq (by omega))
theorem shf_lin (n : Nat) (c : Int) (g h : Nat → Int) (k : Nat) : shf n (fun j => g j + c * h j) k = shf n g k + c * shf n h k := by
  unfold shf
  split
  · rfl
  · omega
theorem cnvN_lin (c : Int) (u g h : Nat → Int) : ∀ n k, cnvN n u (fun j => g j + c * h j) k = cnvN n u g k + c * cnvN n u h k
  | 0, k => by show (0 : Int) = 0 + c * 0; omega
  | n + 1, k => by
    show cnvN n u (fun j => g j + c * h j) k + u n * shf n (fun j => g j + c * h j) k = cnvN n u g k + u n * shf n g k + c * (cnvN n u h k + u n * shf n h k)
    rw [cnvN_lin c u g h n k, shf_lin]
    grind
theorem cnvN_cong {p : Int} {u g h : Nat → Int} (e : ∀ k, cg p (g k) (h k)) : ∀ n k, cg p (cnvN n u g k) (cnvN n u h k)
  | 0, _ => cg.refl p 0
  | n + 1, k => by
    refine (cnvN_cong (u := u) e n k).add ((cg.refl p (u n)).mul ?_)
    unfold shf
    split
    · exact e _
    · exact cg.refl p 0
/-- one number at place i -/
def dlt (i : Nat) : Nat → Int := fun k => if k = i then 1 else 0
theorem cnvN_dlt (u : Nat → Int) (i : Nat) : ∀ n k, cnvN n u (dlt i) k = if i ≤ k ∧ k < i + n then u (k - i) else 0
  | 0, k => by
    rw [if_neg (by omega)]
    rfl
  | n + 1, k => by
    show cnvN n u (dlt i) k + u n * shf n (dlt i) k = _
    rw [cnvN_dlt u i n k]
    unfold shf dlt
    by_cases h : k = i + n
    · rw [if_neg (by omega), if_pos (show n ≤ k by omega), if_pos (show k - n = i by omega), if_pos (by omega), show k - i = n by omega]
      omega
    · by_cases h2 : n ≤ k
      · rw [if_pos h2, if_neg (show ¬ k - n = i by omega)]
        by_cases h3 : i ≤ k ∧ k < i + n
        · rw [if_pos h3, if_pos (by omega)]
          omega
        · rw [if_neg h3, if_neg (by omega)]
          omega
      · rw [if_neg h2]
        by_cases h3 : i ≤ k ∧ k < i + n
        · rw [if_pos h3, if_pos (by omega)]
          omega
        · rw [if_neg h3, if_neg (by omega)]
          omega
theorem cnvN_mul {a : Row} (i : Nat) (k : Nat) : cnvN a.length (ent a) (dlt i) k = shf i (ent a) k := by
  rw [cnvN_dlt]
  unfold shf
  by_cases h : i ≤ k
  · rw [if_pos h]
    by_cases h2 : k < i + a.length
    · rw [if_pos ⟨h, h2⟩]
    · rw [if_neg (by omega), ent_out (by omega)]
  · rw [if_neg h, if_neg (by omega)]
end My


/-! Tables by their numbers; polynomials put on tables. -/
namespace My
def el (M : List Row) (i j : Nat) : Int := ent (M.getD i []) j
def tabM (p : Int) (n m : Nat) (F : Nat → Nat → Int) : List Row := (List.range n).map fun i => (List.range m).map fun j => F i j % p
def mixT (p c : Int) (A B : List Row) : List Row := List.zipWith (mixR p c) A B
section
variable {p : Int} {n m : Nat} {A : List Row} {f : Row}
theorem el_of {M : List Row} {i j : Nat} {r : Row} (h : M[i]? = some r) : el M i j = ent r j := by
  unfold el
  rw [List.getD_eq_getElem?_getD, h]
  rfl
theorem tabM_len {F : Nat → Nat → Int} : (tabM p n m F).length = n := by unfold tabM; rw [List.length_map, List.length_range]
theorem tabM_get {F : Nat → Nat → Int} {i : Nat} (h : i < n) : (tabM p n m F)[i]? = some ((List.range m).map fun j => F i j % p) := by
  unfold tabM
  rw [List.getElem?_map, List.getElem?_range h]
  rfl
theorem tabM_wf (hp : 0 < p) {F : Nat → Nat → Int} : ∀ r ∈ tabM p n m F, Wf p m r := fun r hr => by
  obtain ⟨i, _, rfl⟩ := List.mem_map.mp hr
  refine ⟨by rw [List.length_map, List.length_range], fun x hx => ?_⟩
  obtain ⟨j, _, rfl⟩ := List.mem_map.mp hx
  exact ⟨Int.emod_nonneg _ (by omega), Int.emod_lt_of_pos _ hp⟩
theorem tabM_el {F : Nat → Nat → Int} {i j : Nat} (hi : i < n) (hj : j < m) : cg p (el (tabM p n m F) i j) (F i j) := by
  rw [el_of (tabM_get hi), ent_map hj]
  exact cg.emod _ _
theorem tabM_is {M : List Row} {F : Nat → Nat → Int} (hp : 0 < p) (l : M.length = n) (w : ∀ r ∈ M, Wf p m r) (h : ∀ i j, i < n → j < m → cg p (el M i j) (F i j)) : M = tabM p n m F := by
  refine List.ext_getElem? fun i => ?_
  by_cases hi : i < n
  · have e : M[i]? = some M[i] := List.getElem?_eq_getElem (by omega)
    rw [tabM_get hi, e]
    congr 1
    refine row_ext (w _ (List.getElem_mem (by omega))) (tabM_wf hp (F := F) (n := n) _ (List.mem_of_getElem? (tabM_get hi))) fun j hj => ?_
    have := h i j hi hj
    rw [el_of e] at this
    rw [ent_map hj]
    exact this.trans (cg.emod _ _).symm
  · rw [List.getElem?_eq_none (by omega), List.getElem?_eq_none (by rw [tabM_len]; omega)]
theorem tabM_cong {F G : Nat → Nat → Int} (hp : 0 < p) (h : ∀ i j, i < n → j < m → cg p (F i j) (G i j)) : tabM p n m F = tabM p n m G :=
  tabM_is hp tabM_len (tabM_wf hp) fun i j hi hj => (tabM_el hi hj).trans (h i j hi hj)
theorem tabM_self (hp : 0 < p) {M : List Row} (l : M.length = n) (w : ∀ r ∈ M, Wf p m r) : M = tabM p n m (el M) := tabM_is hp l w fun _ _ _ _ => cg.refl _ _
theorem el_prod {A B : List Row} {i j : Nat} (hi : i < A.length) (w : ∀ r ∈ A, r.length = B.length) (hj : j < m) : cg p (el (prodM p A B m) i j) (dsum B.length fun k => el A i k * el B k j) := by
  have ha : A[i]? = some A[i] := List.getElem?_eq_getElem hi
  have e : (prodM p A B m)[i]? = some (mixM p A[i] B m) := by
    unfold prodM
    rw [List.getElem?_map, ha]
    rfl
  rw [el_of e, mixM_ent hj, dot_dsum j (w _ (List.getElem_mem hi))]
  refine (cg.emod _ _).trans (cg.of_eq (dsum_congr _ fun k hk => ?_))
  rw [el_of ha]
  congr 1
  rw [el_of (List.getElem?_eq_getElem hk)]
  show (B.map fun r => ent r j).getD k 0 = _
  rw [List.getD_eq_getElem?_getD, List.getElem?_map, List.getElem?_eq_getElem hk]
  rfl
theorem el_sum {A B : List Row} {i j : Nat} (hi : i < A.length) (hl : A.length = B.length) (wA : ∀ r ∈ A, Wf p m r) (wB : ∀ r ∈ B, Wf p m r) (hj : j < m) : cg p (el (sumM p A B) i j) (el A i j + el B i j) := by
  have ha : A[i]? = some A[i] := List.getElem?_eq_getElem hi
  have hb : B[i]? = some B[i] := List.getElem?_eq_getElem (by omega)
  rw [el_of (sumM_get ha hb), el_of ha, el_of hb]
  have a1 := (wA _ (List.getElem_mem hi)).len
  have b1 := (wB _ (List.getElem_mem (show i < B.length by omega))).len
  have q := ent_some (r := addR p A[i] B[i]) (j := j) (by unfold addR; rw [List.length_zipWith]; omega)
  rw [addR_get (ent_some (by omega)) (ent_some (by omega))] at q
  rw [← Option.some.inj q]
  exact cg.emod _ _
theorem el_sca {A : List Row} {c : Int} {i j : Nat} (hi : i < A.length) (wA : ∀ r ∈ A, Wf p m r) (hj : j < m) : cg p (el (scaM p c A) i j) (c * el A i j) := by
  have ha : A[i]? = some A[i] := List.getElem?_eq_getElem hi
  rw [el_of (scaM_get ha), el_of ha, mulR_ent (wA _ (List.getElem_mem hi)) hj]
  exact cg.emod _ _
theorem el_mix {A B : List Row} {c : Int} {i j : Nat} (hi : i < A.length) (hl : A.length = B.length) (wA : ∀ r ∈ A, Wf p m r) (wB : ∀ r ∈ B, Wf p m r) (hj : j < m) : cg p (el (mixT p c A B) i j) (el A i j + c * el B i j) := by
  have ha : A[i]? = some A[i] := List.getElem?_eq_getElem hi
  have hb : B[i]? = some B[i] := List.getElem?_eq_getElem (by omega)
  have e : (mixT p c A B)[i]? = some (mixR p c A[i] B[i]) := by
    unfold mixT
    rw [List.getElem?_zipWith, ha, hb]
  rw [el_of e, el_of ha, el_of hb, mixR_ent (wA _ (List.getElem_mem hi)) (wB _ (List.getElem_mem (by omega))) hj]
  exact cg.emod _ _
theorem mixT_len {A B : List Row} {c : Int} (hl : A.length = B.length) : (mixT p c A B).length = A.length := by unfold mixT; rw [List.length_zipWith, hl, Nat.min_self]
theorem mixT_get {A B : List Row} {a b : Row} {c : Int} {i : Nat} (h : A[i]? = some a) (h2 : B[i]? = some b) : (mixT p c A B)[i]? = some (mixR p c a b) := by
  unfold mixT
  rw [List.getElem?_zipWith, h, h2]
theorem mixT_wf (hp : 0 < p) {A B : List Row} {c : Int} (hA : ∀ r ∈ A, Wf p n r) (hB : ∀ r ∈ B, Wf p n r) : ∀ r ∈ mixT p c A B, Wf p n r := fun r hr => by
  obtain ⟨i, hi⟩ := List.getElem?_of_mem hr
  unfold mixT at hi
  rw [List.getElem?_zipWith] at hi
  cases ha : A[i]? with
  | none => rw [ha] at hi; cases hi
  | some a =>
    cases hb : B[i]? with
    | none => rw [ha, hb] at hi; cases hi
    | some b =>
      rw [ha, hb] at hi
      rw [← Option.some.inj hi]
      exact mixR_wf0 hp (hA a (List.mem_of_getElem? ha)) (hB b (List.mem_of_getElem? hb))
theorem el_plain {i j : Nat} (hi : i < n) (hj : j < n) : el (plainM n) i j = if i = j then 1 else 0 := by
  rw [el_of (plainM_get hi), ent_map hj]
/-! sums -/
theorem dsum_swap (F : Nat → Nat → Int) (n : Nat) : ∀ m, dsum n (fun t => dsum m (fun k => F k t)) = dsum m (fun k => dsum n (fun t => F k t))
  | 0 => dsum_zero n
  | m + 1 => by
    show dsum n (fun t => dsum m (fun k => F k t) + F m t) = dsum m (fun k => dsum n (fun t => F k t)) + dsum n (fun t => F m t)
    rw [← dsum_swap F n m]
    have := dsum_lin 1 (fun t => dsum m (fun k => F k t)) (fun t => F m t) n
    rw [Int.one_mul] at this
    rw [← this]
    exact dsum_congr n fun i _ => by omega
theorem dsum_mul (c : Int) (f : Nat → Int) (n : Nat) : dsum n (fun i => c * f i) = c * dsum n f := by
  have := dsum_lin c (fun _ => 0) f n
  rw [dsum_zero, Int.zero_add] at this
  rw [← this]
  exact dsum_congr n fun i _ => by omega
theorem dsum_app (f : Nat → Int) (a : Nat) : ∀ b, dsum (a + b) f = dsum a f + dsum b (fun k => f (a + k))
  | 0 => by show dsum a f = dsum a f + 0; omega
  | b + 1 => by
    show dsum (a + b) f + f (a + b) = dsum a f + (dsum b (fun k => f (a + k)) + f (a + b))
    rw [dsum_app f a b]
    omega
theorem dsum_more {f : Nat → Int} {a : Nat} (h : ∀ k, a ≤ k → f k = 0) (b : Nat) : dsum (a + b) f = dsum a f := by
  rw [dsum_app, dsum_congr (g := fun _ => 0) b (fun k _ => h (a + k) (by omega)), dsum_zero]
  omega
/-! powers -/
def pw (n : Nat) (A : Nat → Nat → Int) : Nat → Nat → Nat → Int
  | 0, i, j => if i = j then 1 else 0
  | k + 1, i, j => dsum n fun t => pw n A k i t * A t j
def ev (n : Nat) (A : Nat → Nat → Int) (g : Nat → Int) (L : Nat) (i j : Nat) : Int := dsum L fun k => g k * pw n A k i j
theorem dsum_dl {n i : Nat} (f : Nat → Int) (hi : i < n) : dsum n (fun t => (if i = t then 1 else 0) * f t) = f i := by
  rw [dsum_congr (g := fun t => if t = i then f t else 0) n (fun t _ => by
    by_cases q : i = t
    · rw [if_pos q, if_pos q.symm]; omega
    · rw [if_neg q, if_neg fun z => q z.symm]; omega), dsum_one, if_pos hi]
theorem dsum_dr {n j : Nat} (f : Nat → Int) (hj : j < n) : dsum n (fun t => f t * (if t = j then 1 else 0)) = f j := by
  rw [dsum_congr (g := fun t => if t = j then f t else 0) n (fun t _ => by
    by_cases q : t = j
    · rw [if_pos q, if_pos q]; omega
    · rw [if_neg q, if_neg q]; omega), dsum_one, if_pos hj]
theorem pw_add (A : Nat → Nat → Int) (a : Nat) : ∀ (b : Nat) {i j : Nat}, i < n → j < n → pw n A (a + b) i j = dsum n (fun t => pw n A a i t * pw n A b t j)
  | 0, i, j, _, hj => (dsum_dr (fun t => pw n A a i t) hj).symm
  | b + 1, i, j, hi, hj => by
    show dsum n (fun s => pw n A (a + b) i s * A s j) = dsum n (fun t => pw n A a i t * dsum n (fun s => pw n A b t s * A s j))
    rw [dsum_congr n (fun s hs => by rw [pw_add A a b hi hs])]
    rw [dsum_congr (g := fun s => dsum n (fun t => pw n A a i t * pw n A b t s * A s j)) n (fun s _ => by
      rw [Int.mul_comm, ← dsum_mul]
      exact dsum_congr n fun t _ => by grind)]
    rw [dsum_swap (fun t s => pw n A a i t * pw n A b t s * A s j) n n]
    refine dsum_congr n fun t _ => ?_
    rw [← dsum_mul]
    exact dsum_congr n fun s _ => by grind
/-- Horner's step -/
theorem ev_cons (A : Nat → Nat → Int) (g : Nat → Int) (L : Nat) (i j : Nat) : ev n A g (L + 1) i j = dsum n (fun t => ev n A (fun k => g (k + 1)) L i t * A t j) + g 0 * (if i = j then 1 else 0) := by
  unfold ev
  rw [dsum_shift]
  have e : dsum L (fun k => g (k + 1) * pw n A (k + 1) i j) = dsum n (fun t => dsum L (fun k => g (k + 1) * pw n A k i t) * A t j) := by
    show dsum L (fun k => g (k + 1) * dsum n (fun t => pw n A k i t * A t j)) = _
    rw [dsum_congr (g := fun k => dsum n (fun t => g (k + 1) * pw n A k i t * A t j)) L (fun k _ => by
      rw [← dsum_mul]
      exact dsum_congr n fun t _ => by grind)]
    rw [← dsum_swap (fun k t => g (k + 1) * pw n A k i t * A t j) n L]
    refine dsum_congr n fun t _ => ?_
    rw [Int.mul_comm, ← dsum_mul]
    exact dsum_congr L fun k _ => by grind
  rw [e]
  exact Int.add_comm _ _
theorem ev_more {A : Nat → Nat → Int} {g : Nat → Int} {L : Nat} (h : ∀ k, L ≤ k → g k = 0) (b : Nat) {i j : Nat} : ev n A g (L + b) i j = ev n A g L i j := by
  unfold ev
  exact dsum_more (fun k hk => by rw [h k hk]; omega) b
theorem ev_cg {A : Nat → Nat → Int} {g h : Nat → Int} {L : Nat} (e : ∀ k, cg p (g k) (h k)) {i j : Nat} : cg p (ev n A g L i j) (ev n A h L i j) :=
  dsum_cg L fun k _ => (e k).mul (cg.refl p _)
theorem ev_shf {A : Nat → Nat → Int} {g : Nat → Int} {L a b : Nat} (h : ∀ k, L ≤ k → g k = 0) {i j : Nat} (hi : i < n) (hj : j < n) : ev n A (shf a g) (a + (L + b)) i j = dsum n (fun t => pw n A a i t * ev n A g L t j) := by
  unfold ev
  rw [dsum_app, dsum_congr (g := fun _ => 0) a (fun k hk => by unfold shf; rw [if_neg (by omega)]; omega), dsum_zero, Int.zero_add]
  rw [dsum_congr (g := fun k => g k * pw n A (a + k) i j) (L + b) (fun k _ => by unfold shf; rw [if_pos (by omega), Nat.add_sub_cancel_left])]
  rw [dsum_more (a := L) (fun k hk => by rw [h k hk]; omega) b]
  rw [dsum_congr (g := fun k => dsum n (fun t => g k * (pw n A a i t * pw n A k t j))) L (fun k _ => by rw [pw_add A a k hi hj, dsum_mul])]
  rw [← dsum_swap (fun k t => g k * (pw n A a i t * pw n A k t j)) n L]
  refine dsum_congr n fun t _ => ?_
  rw [← dsum_mul]
  exact dsum_congr L fun k _ => by grind
theorem ev_cnv {A : Nat → Nat → Int} {f g : Nat → Int} {L M : Nat} (h : ∀ k, L ≤ k → g k = 0) {i j : Nat} (hi : i < n) (hj : j < n) : ∀ N, N ≤ M → ev n A (cnvN N f g) (M + L) i j = dsum n (fun t => ev n A f N i t * ev n A g L t j)
  | 0, _ => by
    unfold ev
    show dsum (M + L) (fun k => 0 * pw n A k i j) = dsum n (fun t => 0 * _)
    rw [dsum_congr (g := fun _ => 0) (M + L) (fun k _ => by omega), dsum_zero, dsum_congr (g := fun _ => 0) n (fun t _ => by omega), dsum_zero]
  | N + 1, hN => by
    have ih := ev_cnv (A := A) (M := M) h hi hj (f := f) N (by omega)
    have e : ev n A (cnvN (N + 1) f g) (M + L) i j = ev n A (cnvN N f g) (M + L) i j + f N * ev n A (shf N g) (M + L) i j := by
      unfold ev
      rw [← dsum_lin]
      refine dsum_congr _ fun k _ => ?_
      show (cnvN N f g k + f N * shf N g k) * pw n A k i j = _
      grind
    have es := ev_shf (A := A) (g := g) (L := L) (a := N) (b := M - N) h hi hj
    rw [show N + (L + (M - N)) = M + L by omega] at es
    rw [e, ih, es, ← dsum_lin]
    refine dsum_congr n fun t _ => ?_
    show _ = (ev n A f N i t + f N * pw n A N i t) * ev n A g L t j
    grind
/-- a polynomial put on a table -/
def putM (p : Int) (n : Nat) (f : Row) (A : List Row) : List Row := tabM p n n (ev n (el A) (ent f) f.length)
def powM (p : Int) (n : Nat) (A : List Row) (k : Nat) : List Row := tabM p n n (pw n (el A) k)
theorem putM_nil : putM p n [] A = tabM p n n fun _ _ => 0 := rfl
theorem sca_zero (hp : 2 ≤ p) : scaM p 0 (plainM n) = putM p n [] A := by
  refine tabM_is (by omega) (by rw [scaM_len, plainM_len]) (scaM_wf (by omega) (plainM_wf hp)) fun i j hi hj => ?_
  refine (el_sca (by rw [plainM_len]; exact hi) (plainM_wf hp) hj).trans (cg.of_eq ?_)
  rw [Int.zero_mul]
  rfl
theorem put_step (hp : 2 ≤ p) {A : List Row} (hA : A.length = n) (f : Row) (c : Int) : sumM p (prodM p (putM p n f A) A n) (scaM p c (plainM n)) = putM p n (c :: f) A := by
  have wp : ∀ r ∈ prodM p (putM p n f A) A n, Wf p n r := prodM_wf (by omega)
  have ws : ∀ r ∈ scaM p c (plainM n), Wf p n r := scaM_wf (by omega) (plainM_wf hp)
  have l1 : (prodM p (putM p n f A) A n).length = n := by rw [prodM_len]; exact tabM_len
  have l2 : (scaM p c (plainM n)).length = n := by rw [scaM_len, plainM_len]
  refine tabM_is (by omega) (by rw [sumM_len (l1.trans l2.symm), l1]) (sumM_wf (by omega) wp ws) fun i j hi hj => ?_
  refine (el_sum (by rw [l1]; exact hi) (l1.trans l2.symm) wp ws hj).trans ?_
  refine ((el_prod (by rw [show (putM p n f A).length = n from tabM_len]; exact hi) (fun r hr => by rw [hA]; exact (tabM_wf (p := p) (by omega) r hr).len) hj).add (el_sca (by rw [plainM_len]; exact hi) (plainM_wf hp) hj)).trans ?_
  rw [hA, el_plain hi hj]
  show cg p _ (ev n (el A) (ent (c :: f)) (f.length + 1) i j)
  rw [ev_cons]
  refine cg.add (dsum_cg n fun t ht => ?_) (cg.refl _ _)
  exact (tabM_el hi ht).mul (cg.refl p _)
theorem pow_zero : powM p n A 0 = tabM p n n fun i j => if i = j then 1 else 0 := rfl
theorem plain_pow (hp : 2 ≤ p) : plainM n = powM p n A 0 := tabM_is (by omega) plainM_len (plainM_wf hp) fun i j hi hj => cg.of_eq (el_plain hi hj)
theorem pow_step (hp : 2 ≤ p) {A : List Row} (hA : A.length = n) (k : Nat) : prodM p (powM p n A k) A n = powM p n A (k + 1) := by
  refine tabM_is (by omega) (by rw [prodM_len]; exact tabM_len) (prodM_wf (by omega)) fun i j hi hj => ?_
  refine (el_prod (by rw [show (powM p n A k).length = n from tabM_len]; exact hi) (fun r hr => by rw [hA]; exact (tabM_wf (p := p) (by omega) r hr).len) hj).trans ?_
  rw [hA]
  exact dsum_cg n fun t ht => (tabM_el hi ht).mul (cg.refl p _)
theorem put_len {f : Row} : (putM p n f A).length = n := tabM_len
theorem put_wf (hp : 0 < p) {f : Row} : ∀ r ∈ putM p n f A, Wf p n r := tabM_wf hp
theorem pow_len {k : Nat} : (powM p n A k).length = n := tabM_len
theorem pow_wf (hp : 0 < p) {k : Nat} : ∀ r ∈ powM p n A k, Wf p n r := tabM_wf hp
/-- up to a power -/
def pupM (p : Int) (n : Nat) (f : Row) (A : List Row) (k : Nat) : List Row := tabM p n n (ev n (el A) (ent f) k)
theorem pup_step (hp : 2 ≤ p) (f : Row) (k : Nat) : mixT p (ent f k) (pupM p n f A k) (powM p n A k) = pupM p n f A (k + 1) := by
  have l1 : (pupM p n f A k).length = n := tabM_len
  have l2 : (powM p n A k).length = n := tabM_len
  refine tabM_is (by omega) (by rw [mixT_len (l1.trans l2.symm), l1]) (mixT_wf (by omega) (tabM_wf (by omega)) (tabM_wf (by omega))) fun i j hi hj => ?_
  refine (el_mix (by rw [l1]; exact hi) (l1.trans l2.symm) (tabM_wf (by omega)) (tabM_wf (by omega)) hj).trans ?_
  exact (tabM_el hi hj).add ((cg.refl p _).mul (tabM_el hi hj))
theorem pup_zero (hp : 0 < p) : List.replicate n (zeros n) = pupM p n f A 0 := by
  refine tabM_is hp List.length_replicate (fun r hr => by rw [(List.mem_replicate.mp hr).2]; exact zeros_wf hp) fun i j hi hj => ?_
  have e : (List.replicate n (zeros n))[i]? = some (zeros n) := by rw [List.getElem?_replicate, if_pos hi]
  rw [el_of e, zeros_ent]
  exact cg.refl _ _
theorem pup_all {f : Row} : pupM p n f A f.length = putM p n f A := rfl
/-- of a product the product -/
theorem put_times (hp : 2 ≤ p) {f g r : Row} (hr : ∀ k, cg p (ent r k) (cnvN f.length (ent f) (ent g) k)) (hl : r.length ≤ f.length + g.length) : putM p n r A = prodM p (putM p n f A) (putM p n g A) n := by
  refine (tabM_is (by omega) (by rw [prodM_len]; exact tabM_len) (prodM_wf (by omega)) fun i j hi hj => ?_).symm
  refine (el_prod (by rw [show (putM p n f A).length = n from tabM_len]; exact hi) (fun x hx => by rw [show (putM p n g A).length = n from tabM_len]; exact (tabM_wf (p := p) (by omega) x hx).len) hj).trans ?_
  rw [show (putM p n g A).length = n from tabM_len]
  refine (dsum_cg n fun t ht => (tabM_el hi ht).mul (tabM_el ht hj)).trans ?_
  have h := ev_cnv (n := n) (A := el A) (f := ent f) (g := ent g) (L := g.length) (M := f.length) (fun k hk => ent_out hk) hi hj f.length (Nat.le_refl _)
  rw [← h]
  have e2 : ev n (el A) (ent r) r.length i j = ev n (el A) (ent r) (f.length + g.length) i j := by
    have := ev_more (n := n) (A := el A) (g := ent r) (L := r.length) (fun k hk => ent_out hk) (f.length + g.length - r.length) (i := i) (j := j)
    rw [show r.length + (f.length + g.length - r.length) = f.length + g.length by omega] at this
    exact this.symm
  rw [e2]
  exact (ev_cg hr).symm
end
end My

namespace My
open PySem PySem.Spec PyProof.Rows L2
section
variable {P : Program} {w : World} {K : PySem.W.Frag} {mg : Str → Option Value} {base : Heap}
abbrev iv (m : List Int) : List V := m.map V.int

abbrev rf (rs : List Addr) : List V := rs.map V.ref

theorem same_new {H : Hp} {q : Addr} {o : HO} (h : H q = none) : Same H (upd H q o) := fun b x e => by
  rw [upd_ne (ne_of_none e h)]
  exact e

theorem same_upd {H H' : Hp} {q : Addr} {o : HO} (h : H q = none) (s : Same H H') : Same H (upd H' q o) := fun b x e => by
  rw [upd_ne (ne_of_none e h)]
  exact s b x e

theorem same_none {H H' : Hp} {q : Addr} (s : Same H H') (h : H' q = none) : H q = none := s.free h

/-- a list at its own place in the heap -/
abbrev IL (H : Hp) (a : Addr) (m : List Int) : Prop := H a = some (.lst (iv m))

theorem IL.sq {K : PySem.W.Frag} {H : Hp} {a : Addr} {m : List Int} (h : IL H a m) : SqL K H a (iv m) := SqL.of h

/-- a list of rows -/
structure Tab (H : Hp) (a : Addr) (rs : List Addr) (M : List Row) : Prop where
  at_ : H a = some (.lst (rf rs))
  len : rs.length = M.length
  row : ∀ (i : Nat) r m, rs[i]? = some r → M[i]? = some m → IL H r m

theorem Tab.same {H H' : Hp} {a : Addr} {rs : List Addr} {M : List Row} (t : Tab H a rs M) (s : Same H H') : Tab H' a rs M := ⟨s _ _ t.at_, t.len, fun i r m hr hm => s _ _ (t.row i r m hr hm)⟩

theorem iv_get {m : List Int} {i : Nat} {x : Int} (h : m[i]? = some x) : (iv m)[i]? = some (V.int x) := by
  rw [List.getElem?_map, h]
  rfl

theorem iv_ent {m : List Int} {i : Nat} (h : i < m.length) : (iv m)[i]? = some (V.int (ent m i)) := iv_get (ent_some h)

theorem rf_get {rs : List Addr} {i : Nat} {r : Addr} (h : rs[i]? = some r) : (rf rs)[i]? = some (V.ref r) := by
  rw [List.getElem?_map, h]
  rfl

theorem rf_inv {rs : List Addr} {i : Nat} {v : V} (h : (rf rs)[i]? = some v) : ∃ r, rs[i]? = some r ∧ v = .ref r := by
  rw [List.getElem?_map] at h
  cases e : rs[i]? with
  | none => rw [e] at h; cases h
  | some r => rw [e] at h; exact ⟨r, rfl, (Option.some.inj h).symm⟩

theorem iv_inv {m : List Int} {i : Nat} {v : V} (h : (iv m)[i]? = some v) : ∃ x, m[i]? = some x ∧ v = .int x := by
  rw [List.getElem?_map] at h
  cases e : m[i]? with
  | none => rw [e] at h; cases h
  | some r => rw [e] at h; exact ⟨r, rfl, (Option.some.inj h).symm⟩

theorem get_lt {α : Type} {l : List α} {i : Nat} {x : α} (h : l[i]? = some x) : i < l.length := (List.getElem?_eq_some_iff.mp h).1

theorem get_of {α : Type} {l : List α} {i : Nat} (h : i < l.length) : ∃ x, l[i]? = some x := ⟨l[i], List.getElem?_eq_getElem h⟩

/-- a list of ints that is being made at D -/
structure Mk (H : Hp) (D : Addr) (g : List Int) (i : Nat) (H' : Hp) : Prop where
  same : Same H H'
  at_ : H' D = some (.lst (iv (g.take i)))

theorem Mk.start {H : Hp} {D : Addr} {g : List Int} (h : H D = none) : Mk H D g 0 (upd H D (.lst [])) := ⟨same_new h, upd_same⟩

theorem Mk.step {H H' H2 : Hp} {D : Addr} {g : List Int} {i : Nat} {y : Int} (m : Mk H D g i H') (hD : H D = none) (s : Same H' H2) (e : g[i]? = some y) (hl : g.length ≤ 1000) :
    ∃ acc, H2 D = some (.lst acc) ∧ acc.length < sizeLine ∧ Mk H D g (i + 1) (upd H2 D (.lst (acc ++ [.int y]))) := by
  refine ⟨_, s _ _ m.at_, ?_, same_upd hD (m.same.trans s), ?_⟩
  · rw [List.length_map, List.length_take]
    exact small1000 (by omega)
  · rw [upd_same, List.take_add_one, e]
    simp

theorem Mk.done {H H' : Hp} {D : Addr} {g : List Int} {n : Nat} (m : Mk H D g n H') (h : n = g.length) : IL H' D g := by
  have := m.at_
  rw [h, List.take_length] at this
  exact this

/-- a list of rows that is being made at D: each row is new, or stands at the same place of rs -/
structure Mt (H : Hp) (D : Addr) (rs : List Addr) (G : List Row) (i : Nat) (H' : Hp) (qs : List Addr) : Prop where
  same : Same H H'
  at_ : H' D = some (.lst (rf qs))
  len : qs.length = i
  row : ∀ (j : Nat) q g, qs[j]? = some q → G[j]? = some g → IL H' q g
  src : ∀ (j : Nat) q, qs[j]? = some q → rs[j]? = some q ∨ H q = none
  nD : D ∉ qs
  nd : rs.Nodup → qs.Nodup

theorem Mt.start {H : Hp} {D : Addr} {rs : List Addr} {G : List Row} (h : H D = none) : Mt H D rs G 0 (upd H D (.lst [])) [] := ⟨same_new h, upd_same, rfl, fun j q g hq => by simp at hq, fun j q hq => by simp at hq, by simp, fun _ => List.nodup_nil⟩

theorem nodup_snoc {α : Type} {l : List α} {x : α} (h : l.Nodup) (hx : x ∉ l) : (l ++ [x]).Nodup := by
  refine List.nodup_append.mpr ⟨h, by simp, fun a ha b hb e => ?_⟩
  rw [List.mem_singleton.mp hb] at e
  exact hx (e ▸ ha)

theorem Mt.step {H H' H2 : Hp} {D : Addr} {rs : List Addr} {G : List Row} {i : Nat} {qs : List Addr} {q : Addr} {g : Row} (m : Mt H D rs G i H' qs) (hD : H D = none) (tr : ∀ r ∈ rs, ∃ o, H r = some o) (s : Same H' H2) (e : G[i]? = some g) (hq : IL H2 q g) (sr : rs[i]? = some q ∨ H' q = none) (hl : G.length ≤ 1000) :
    ∃ acc, H2 D = some (.lst acc) ∧ acc.length < sizeLine ∧ Mt H D rs G (i + 1) (upd H2 D (.lst (acc ++ [.ref q]))) (qs ++ [q]) := by
  have hi := get_lt e
  have ne : q ≠ D := by
    rcases sr with h | h
    · obtain ⟨o, ho⟩ := tr q (List.mem_of_getElem? h)
      exact ne_of_none ho hD
    · exact fun z => by
        rw [z, m.at_] at h
        cases h
  refine ⟨_, s _ _ m.at_, ?_, same_upd hD (m.same.trans s), ?_, ?_, fun j r h hr hh => ?_, fun j r hr => ?_, ?_, fun nd => ?_⟩
  · rw [List.length_map, m.len]
    exact small1000 (by omega)
  · rw [upd_same]
    simp
  · rw [List.length_append, m.len]
    rfl
  · by_cases hj : j < i
    · rw [List.getElem?_append_left (by rw [m.len]; exact hj)] at hr
      have z := m.row j r h hr hh
      have nr : r ≠ D := fun z => m.nD (z ▸ List.mem_of_getElem? hr)
      show (upd H2 D _) r = _
      rw [upd_ne nr]
      exact s _ _ z
    · have hj2 := get_lt hr
      rw [List.length_append, m.len] at hj2
      have ej : j = i := by simp at hj2; omega
      subst ej
      rw [List.getElem?_append_right (by rw [m.len]; omega), m.len, Nat.sub_self] at hr
      cases Option.some.inj hr
      rw [e] at hh
      cases hh
      show (upd H2 D _) q = _
      rw [upd_ne ne]
      exact hq
  · by_cases hj : j < i
    · rw [List.getElem?_append_left (by rw [m.len]; exact hj)] at hr
      exact m.src j r hr
    · have hj2 := get_lt hr
      rw [List.length_append, m.len] at hj2
      have ej : j = i := by simp at hj2; omega
      subst ej
      rw [List.getElem?_append_right (by rw [m.len]; omega), m.len, Nat.sub_self] at hr
      cases Option.some.inj hr
      rcases sr with h | h
      · exact .inl h
      · exact .inr (same_none m.same h)
  · intro h
    rcases List.mem_append.mp h with h | h
    · exact m.nD h
    · exact ne (List.mem_singleton.mp h).symm
  · refine nodup_snoc (m.nd nd) fun hm => ?_
    obtain ⟨j, hj⟩ := List.getElem?_of_mem hm
    have jl := get_lt hj
    rw [m.len] at jl
    rcases sr with h | h
    · rcases m.src j q hj with h2 | h2
      · have := nd_ix nd h h2
        omega
      · obtain ⟨o, ho⟩ := tr q (List.mem_of_getElem? h)
        rw [ho] at h2
        cases h2
    · obtain ⟨w, hw⟩ := get_of (l := G) (i := j) (by omega)
      have z : H' q = _ := m.row j q w hj hw
      rw [h] at z
      cases z

theorem Mt.tab {H H' : Hp} {D : Addr} {rs : List Addr} {G : List Row} {n : Nat} {qs : List Addr} (m : Mt H D rs G n H' qs) (h : n = G.length) : Tab H' D qs G := ⟨m.at_, m.len.trans h, m.row⟩

/-- a while by a word over a number that falls -/
theorem wh {c : TT} {tb : TS} {D : Ends} {σ : L2.St} {H : Hp} (Pv : Nat → L2.St → Hp → Prop) (m0 : Nat) (h0 : Pv m0 σ H)
    (hs : ∀ m σ H, Pv m σ H → c σ H fun b H1 => if b = true then ∃ N : L2.St → Hp → Prop, (∀ σ' H', N σ' H' → ∃ m', m' < m ∧ Pv m' σ' H') ∧ tb { D with nx := N, ct := N, bk := D.nx } σ H1 else D.nx σ H1) : tWhile c tb D σ H := ⟨Pv, ⟨m0, h0⟩, hs⟩

/-- a comprehension's turn without a test -/
theorem t_yes {te : TE} {σ : L2.St} {H : Hp} {Y : V → Hp → Prop} {N : Hp → Prop} (h : te σ H Y) : tYes σ H (fun b H3 => if b = true then te σ H3 Y else N H3) := iteT (B := N H) h

theorem ixL {X : Cx} (K : PySem.W.Frag) (h : X.K = K := by rfl) : IxR X (rIxL K) := h ▸ ix_list

theorem piZ {X : Cx} (K : PySem.W.Frag) {e e2 : Expr} {ta : TA} {p pos tpos : Pos} {elts : List Expr} {kk : Nat} (h : X.K = K) (hg : Gl X "zip") (hm : X.mg "zip" = none) (ha : PA X [e, e2] ta)
    (hs : starEach [e, e2] X.env = (false, eval e X.env) :: starEach [e2] X.env := by rfl) (hpl : (backTo pos (starEach [e2] X.env)).any (·.1) = false := by rfl) :
    PI X (.Tuple elts kk tpos) (.Call (.Name "zip" p) [e, e2] [] pos) (iZip K ta) := h ▸ pi_zip hg hm ha hs hpl

theorem piL {X : Cx} (K : PySem.W.Frag) {tg l : Expr} {tl : TE} (h : X.K = K) (hl : PE X l tl) : PI X tg l (iList K tl) := h ▸ pi_list hl

/-- the scope of a comprehension, and the expression that a statement hands back or stores -/
def lcScope : Expr → Scope
  | .ListComp _ _ sc _ => sc
  | _ => { kind := .function, names := [], isGenerator := false, isCoroutine := false }

def stE : Stmt → Expr
  | .Return (some e) _ => e
  | .Assign _ e _ => e
  | _ => .Name "" ⟨0, 0, 0, 0⟩

def stN (b : List Stmt) (i : Nat) : Stmt := b.getD i (.Pass ⟨0, 0, 0, 0⟩)

theorem tab_tracked {H : Hp} {a : Addr} {rs : List Addr} {M : List Row} (t : Tab H a rs M) : ∀ r ∈ rs, ∃ o, H r = some o := fun r hr => by
  obtain ⟨i, hi⟩ := List.getElem?_of_mem hr
  obtain ⟨m, hm⟩ := get_of (l := M) (i := i) (by have := get_lt hi; have := t.len; omega)
  exact ⟨_, t.row i r m hi hm⟩

/-- rests of one length -/
abbrev Wfs (p : Int) (n : Nat) (M : List Row) : Prop := ∀ m ∈ M, Wf p n m

theorem clearM_get {p : Int} {pl : Nat} {bm : Row} {M : List Row} {i : Nat} {m : Row} (h : M[i]? = some m) : (clearM p pl bm M)[i]? = some (lessR p m (ent m pl) bm) := by
  unfold clearM
  rw [List.getElem?_map, h]
  rfl

theorem lessR_get {p c x y : Int} {m bm : Row} {i : Nat} (h : m[i]? = some x) (h2 : bm[i]? = some y) : (lessR p m c bm)[i]? = some ((x - c * y) % p) := by
  unfold lessR
  rw [List.getElem?_zipWith, h, h2]

theorem clearM_len {p : Int} {pl : Nat} {b : Row} {M : List Row} : (clearM p pl b M).length = M.length := by
  unfold clearM
  rw [List.length_map]

theorem runM_len {p : Int} {inv : Int → Int} {rows : List Row} : ∀ k, (runM p inv rows k).1.length ≤ k ∧ (runM p inv rows k).2.length ≤ rows.length
  | 0 => ⟨Nat.le_refl _, Nat.le_refl _⟩
  | k + 1 => by
    have ih := runM_len (p := p) (inv := inv) (rows := rows) k
    show (stepM p inv k (runM p inv rows k)).1.length ≤ k + 1 ∧ (stepM p inv k (runM p inv rows k)).2.length ≤ rows.length
    unfold stepM
    split
    · exact ⟨by omega, ih.2⟩
    · refine ⟨?_, ?_⟩
      · show (clearM _ _ _ _ ++ [_]).length ≤ k + 1
        rw [List.length_append, clearM_len, List.length_singleton]
        omega
      · show (clearM _ _ _ _).length ≤ _
        rw [clearM_len]
        have := List.length_eraseIdx_le (runM p inv rows k).2 (by assumption)
        omega

theorem pick_is {pl j : Nat} {L : List Row} (hj : j < L.length) (h : ∀ i, i < j → ent (L.getD i []) pl = 0) (h2 : ent (L.getD j []) pl ≠ 0) : pick pl L = some j := by
  unfold pick
  refine List.findIdx?_eq_some_iff_getElem.mpr ⟨hj, ?_, fun i hi => ?_⟩
  · rw [getD_el L [] hj] at h2
    simpa using h2
  · have := h i hi
    rw [getD_el L [] (by omega)] at this
    simpa using this

theorem pick_non {pl : Nat} {L : List Row} (h : ∀ i, i < L.length → ent (L.getD i []) pl = 0) : pick pl L = none := by
  unfold pick
  refine List.findIdx?_eq_none_iff.mpr fun r hr => ?_
  obtain ⟨i, hi, rfl⟩ := List.getElem_of_mem hr
  have := h i hi
  rw [getD_el L [] hi] at this
  simpa using this

theorem getD_of {α : Type} {l : List α} {d x : α} {i : Nat} (h : l[i]? = some x) : l.getD i d = x := by
  rw [List.getD_eq_getElem?_getD, h]
  rfl

theorem rf_ne {H : Hp} {a r x : Addr} {rs : List Addr} {m : List Int} (h : H a = some (.lst (rf (x :: rs)))) (h2 : IL H r m) : r ≠ a := fun e => by
  rw [e, IL, h] at h2
  have z : rf (x :: rs) = iv m := HO.lst.inj (Option.some.inj h2)
  cases m with
  | nil => cases z
  | cons y m => exact V.noConfusion (List.cons.inj z).1

theorem Tab.upd {H : Hp} {a q : Addr} {o : HO} {rs : List Addr} {M : List Row} (t : Tab H a rs M) (h : a ≠ q) (h2 : ∀ r ∈ rs, r ≠ q) : Tab (upd H q o) a rs M :=
  ⟨by rw [upd_ne h]; exact t.at_, t.len, fun i r m hr hm => by
    show (L2.upd H q o) r = _
    rw [upd_ne (h2 r (List.mem_of_getElem? hr))]
    exact t.row i r m hr hm⟩

theorem seqIx {j n : Nat} (h : j < n) : seqIndex? (j : Int) n = some j := by
  unfold seqIndex?
  simp
  omega

theorem map_erase {α β : Type} {f : α → β} : ∀ (l : List α) (j : Nat), (l.map f).eraseIdx j = (l.eraseIdx j).map f
  | [], j => by simp
  | a :: l, 0 => rfl
  | a :: l, j + 1 => by
    show f a :: (l.map f).eraseIdx j = f a :: (l.eraseIdx j).map f
    rw [map_erase l j]

theorem Tab.erase {H : Hp} {a : Addr} {rs : List Addr} {M : List Row} {j : Nat} (t : Tab H a rs M) (hj : j < rs.length) : Tab (L2.upd H a (.lst ((rf rs).eraseIdx j))) a (rs.eraseIdx j) (M.eraseIdx j) := by
  have hne : ∀ r ∈ rs, r ≠ a := fun r hr => by
    obtain ⟨i, hi⟩ := List.getElem?_of_mem hr
    obtain ⟨m, hm⟩ := get_of (l := M) (i := i) (by have := get_lt hi; have := t.len; omega)
    have z := t.at_
    cases rs with
    | nil => simp at hr
    | cons x rs => exact rf_ne z (t.row i r m hi hm)
  refine ⟨?_, ?_, fun i r m hr hm => ?_⟩
  · rw [upd_same]
    show some (HO.lst ((rs.map V.ref).eraseIdx j)) = some (HO.lst ((rs.eraseIdx j).map V.ref))
    rw [map_erase]
  · rw [List.length_eraseIdx, List.length_eraseIdx, t.len]
  · show (L2.upd H a _) r = _
    rw [upd_ne (hne r (List.mem_of_mem_eraseIdx (List.mem_of_getElem? hr)))]
    rw [List.getElem?_eraseIdx] at hr hm
    by_cases h : i < j
    · rw [if_pos h] at hr hm
      exact t.row i r m hr hm
    · rw [if_neg h] at hr hm
      exact t.row (i + 1) r m hr hm

structure LowI (H H' : Hp) (fa la : Addr) (fs ls : List Addr) (F L : List Row) : Prop where
  same : Same H H'
  tf : Tab H' fa fs F
  tl : Tab H' la ls L
  nf : H fa = none
  nl : H la = none
  ne : fa ≠ la
  fresh : ∀ r ∈ fs, H r = none
  nd : fs.Nodup

theorem IL.ref {H : Hp} {a : Addr} {rs : List Addr} {M : List Row} (t : Tab H a rs M) {r : Addr} (h : r ∈ rs) : ∃ m, m ∈ M ∧ IL H r m := by
  obtain ⟨i, hi⟩ := List.getElem?_of_mem h
  obtain ⟨m, hm⟩ := get_of (l := M) (i := i) (by have := get_lt hi; have := t.len; omega)
  exact ⟨m, List.mem_of_getElem? hm, t.row i r m hi hm⟩

theorem step_name {i : Nat} {v : V} {σ : L2.St} {H : Hp} {Q : L2.St → Hp → Prop} (h : Q (σ.set i (some v)) H) : gName i v σ H Q := h

theorem step_seq {t u : TS} {D : Ends} {σ : L2.St} {H : Hp} (h : t { D with nx := u D } σ H) : tSeq t u D σ H := h

theorem step_asgC {v : V} {i : Nat} {D : Ends} {σ : L2.St} {H : Hp} (h : D.nx (σ.set i (some v)) H) : tAsg (tC v) (gName i) D σ H := h

/-- a rule's reading by a stronger one -/
theorem pe_imp {X : Cx} {e : Expr} {t : TE} (t' : TE) (h : PE X e t) (imp : ∀ σ H Q, t' σ H Q → t σ H Q) : PE X e t' := ⟨fun pins s σ H Q I q => h.run pins s σ H Q I (imp σ H Q q)⟩

theorem pt_imp {X : Cx} {e : Expr} {t : TT} (t' : TT) (h : PT X e t) (imp : ∀ σ H Q, t' σ H Q → t σ H Q) : PT X e t' := ⟨fun pins s σ H Q I q => h.run pins s σ H Q I (imp σ H Q q)⟩

theorem cLst {X : Cx} (K : PySem.W.Frag) (h : X.K = K) : CallR X (.type "list") (fun xs H Q => ∃ p ys, xs = [.ref p] ∧ (SqL K H p ys ∨ SqT K H p ys) ∧ ∀ l, H l = none → Q (.ref l) (L2.upd H l (.lst ys))) := h ▸ call_list_of

theorem cLen {X : Cx} (K : PySem.W.Frag) (h : X.K = K) : CallR X (.builtin "len") (fun xs H Q => ∃ p ys, xs = [.ref p] ∧ (SqL K H p ys ∨ SqT K H p ys) ∧ Q (.int ys.length) H) := h ▸ call_len_seq

/-- a drawer's bag, asked so often at most -/
def Bg (H : Hp) (a : Addr) (c : Nat) : Prop := ∃ x y : Int, H a = some (.lst [.int x, .int y]) ∧ 0 ≤ x ∧ 0 ≤ y ∧ y ≤ c ∧ (y = 0 ∨ x < 2147483647)

theorem Bg.mono {H : Hp} {a : Addr} {c d : Nat} (b : Bg H a c) (h : c ≤ d) : Bg H a d := by
  obtain ⟨x, y, h1, h2, h3, h4, h5⟩ := b
  exact ⟨x, y, h1, h2, h3, by omega, h5⟩

theorem Bg.same {H H' : Hp} {a : Addr} {c : Nat} (b : Bg H a c) (s : H' a = H a) : Bg H' a c := by
  obtain ⟨x, y, h1, h2⟩ := b
  exact ⟨x, y, s.trans h1, h2⟩

theorem Bg.ne {H : Hp} {a q : Addr} {c : Nat} (b : Bg H a c) (h : H q = none) : q ≠ a := by
  obtain ⟨x, y, h1, _⟩ := b
  exact fun e => by rw [e, h1] at h; cases h

/-- all but what stands at b is as it was -/
def Off (b : Addr) (H H' : Hp) : Prop := ∀ q o, q ≠ b → H q = some o → H' q = some o

theorem Off.refl (b : Addr) (H : Hp) : Off b H H := fun _ _ _ h => h

theorem Off.trans {b : Addr} {H H1 H2 : Hp} (x : Off b H H1) (y : Off b H1 H2) : Off b H H2 := fun q o n h => y q o n (x q o n h)

theorem Off.of {b : Addr} {H H' : Hp} (s : Same H H') : Off b H H' := fun q o _ h => s q o h

theorem Off.free {b q : Addr} {H H' : Hp} (x : Off b H H') (h : H' q = none) (n : q ≠ b) : H q = none := by
  cases e : H q with
  | none => rfl
  | some o =>
    rw [x q o n e] at h
    cases h

theorem Off.new {b q : Addr} {o : HO} {H H' : Hp} (x : Off b H H') (h : H q = none) : Off b H (upd H' q o) := fun r u n e => by
  rw [upd_ne (ne_of_none e h)]
  exact x r u n e

theorem Tab.push {H : Hp} {l q : Addr} {rs : List Addr} {M : List Row} {m : Row} (t : Tab H l rs M) (h : IL H q m) (n : q ≠ l) : Tab (L2.upd H l (.lst (rf rs ++ [.ref q]))) l (rs ++ [q]) (M ++ [m]) := by
  have hne : ∀ r ∈ rs, r ≠ l := fun r hr => by
    obtain ⟨m, _, hm⟩ := IL.ref t hr
    have z := t.at_
    cases rs with
    | nil => simp at hr
    | cons x rs => exact rf_ne z hm
  refine ⟨by rw [upd_same]; simp, by rw [List.length_append, List.length_append, t.len]; rfl, fun i r u hr hu => ?_⟩
  show (L2.upd H l _) r = _
  by_cases hi : i < rs.length
  · rw [List.getElem?_append_left hi] at hr
    rw [List.getElem?_append_left (by have := t.len; omega)] at hu
    rw [upd_ne (hne r (List.mem_of_getElem? hr))]
    exact t.row i r u hr hu
  · have h2 := get_lt hr
    rw [List.length_append, List.length_singleton] at h2
    have e : i = rs.length := by omega
    rw [List.getElem?_append_right (by omega), e, Nat.sub_self] at hr
    rw [List.getElem?_append_right (by have := t.len; omega), e, t.len, Nat.sub_self] at hu
    cases Option.some.inj hr
    cases Option.some.inj hu
    rw [upd_ne n]
    exact h

theorem Tab.off {b : Addr} {H H' : Hp} {a : Addr} {rs : List Addr} {M : List Row} (t : Tab H a rs M) (o : Off b H H') (n : a ≠ b) (n2 : ∀ r ∈ rs, r ≠ b) : Tab H' a rs M := ⟨o _ _ n t.at_, t.len, fun i r m hr hm => o _ _ (n2 r (List.mem_of_getElem? hr)) (t.row i r m hr hm)⟩

theorem mixR_get {p c x y : Int} {m bm : Row} {i : Nat} (h : m[i]? = some x) (h2 : bm[i]? = some y) : (mixR p c m bm)[i]? = some ((x + c * y) % p) := by
  unfold mixR
  rw [List.getElem?_zipWith, h, h2]

theorem mixR_wf {p c : Int} {n : Nat} {one other : Row} (hp : 0 < p) (h : Wf p n one) (h2 : Wf p n other) : Wf p n (mixR p c one other) := by
  have len : (mixR p c one other).length = n := by
    unfold mixR
    rw [List.length_zipWith, h.len, h2.len, Nat.min_self]
  refine ⟨len, fun x hx => ?_⟩
  obtain ⟨j, hj⟩ := List.getElem?_of_mem hx
  obtain ⟨a, ha⟩ := get_of (l := one) (i := j) (by have := get_lt hj; have := h.len; omega)
  obtain ⟨b, hb⟩ := get_of (l := other) (i := j) (by have := get_lt hj; have := h2.len; omega)
  rw [mixR_get ha hb] at hj
  rw [← Option.some.inj hj]
  exact ⟨Int.emod_nonneg _ (by omega), Int.emod_lt_of_pos _ hp⟩

theorem upd_upd {H : Hp} {a : Addr} {o u : HO} : upd (upd H a o) a u = upd H a u := by
  funext q
  by_cases h : q = a
  · rw [h, upd_same, upd_same]
  · rw [upd_ne h, upd_ne h, upd_ne h]

structure RowI (p : Int) (n : Nat) (b : Addr) (c : Nat) (H : Hp) (l : Addr) (rs : List Addr) (M : List Row) (H' : Hp) : Prop where
  off : Off b H H'
  tab : Tab H' l rs M
  wf : Wfs p n M
  fresh : ∀ r ∈ rs, H r = none
  bag : Bg H' b c

theorem runM_stop {p : Int} {inv : Int → Int} {rows : List Row} {k : Nat} (h : (runM p inv rows k).2 = []) : ∀ d, runM p inv rows (k + d) = runM p inv rows k
  | 0 => rfl
  | d + 1 => by
    show stepM p inv (k + d) (runM p inv rows (k + d)) = _
    rw [runM_stop h d]
    unfold stepM
    rw [h]
    rfl

def nzs (pl : Nat) (L : List Row) (i : Nat) : List Nat := (List.range i).filter fun k => decide (ent (L.getD k []) pl ≠ 0)

theorem nzs_succ {pl i : Nat} {L : List Row} : nzs pl L (i + 1) = nzs pl L i ++ (if ent (L.getD i []) pl ≠ 0 then [i] else []) := by
  unfold nzs
  rw [List.range_succ, List.filter_append]
  congr 1
  by_cases h : ent (L.getD i []) pl ≠ 0
  · rw [if_pos h, List.filter_cons_of_pos (by simpa using h)]
    rfl
  · rw [if_neg h, List.filter_cons_of_neg (by simpa using h)]
    rfl

theorem nzs_len {pl i : Nat} {L : List Row} : (nzs pl L i).length ≤ i := by
  have := List.length_filter_le (fun k => decide (ent (L.getD k []) pl ≠ 0)) (List.range i)
  rw [List.length_range] at this
  exact this

theorem pick_nil {pl : Nat} {L : List Row} (h : nzs pl L L.length = []) : pick pl L = none := pick_non fun i hi => by
  have := (List.filter_eq_nil_iff.mp h) i (List.mem_range.mpr hi)
  simpa using this

theorem pick_cons {pl j : Nat} {t : List Nat} {L : List Row} (h : nzs pl L L.length = j :: t) : j < L.length ∧ ent (L.getD j []) pl ≠ 0 ∧ pick pl L = some j := by
  have mj : j ∈ nzs pl L L.length := by rw [h]; exact List.mem_cons_self
  have mj2 := List.mem_filter.mp mj
  have hj := List.mem_range.mp mj2.1
  have nj : ent (L.getD j []) pl ≠ 0 := by simpa using mj2.2
  refine ⟨hj, nj, pick_is hj (fun i hi => ?_) nj⟩
  refine Classical.byContradiction fun c => ?_
  have mi : i ∈ nzs pl L L.length := List.mem_filter.mpr ⟨List.mem_range.mpr (by omega), by simpa using c⟩
  have pw : (nzs pl L L.length).Pairwise (· < ·) := List.Pairwise.filter _ List.pairwise_lt_range
  rw [h] at mi pw
  rcases List.mem_cons.mp mi with e | e
  · omega
  · have := (List.pairwise_cons.mp pw).1 i e
    omega

structure FormI (H H' : Hp) (fa la : Addr) (fs ls : List Addr) (F L : List Row) : Prop where
  same : Same H H'
  tf : Tab H' fa fs F
  tl : Tab H' la ls L
  nf : H fa = none
  nl : H la = none
  ne : fa ≠ la
  fresh : ∀ r ∈ fs, H r = none

def dRow (m : Row) : PyData := .list (m.map PyData.int)

def dTab (M : List Row) : PyData := .list (M.map dRow)

theorem dInts_lay : ∀ m : List Int, PyData.canLayAll0 (m.map PyData.int) = true
  | [] => rfl
  | x :: m => by
    show (PyData.canLay0 (.int x) && PyData.canLayAll0 (m.map PyData.int)) = true
    rw [dInts_lay m]
    rfl

theorem dInts_depth : ∀ m : List Int, PyData.depthAll (m.map PyData.int) = 0
  | [] => rfl
  | x :: m => by
    show max (PyData.depth (.int x)) (PyData.depthAll (m.map PyData.int)) = 0
    rw [dInts_depth m]
    rfl

theorem dRow_lay (m : Row) : (dRow m).canLay0 = true := dInts_lay m

theorem dRows_lay : ∀ M : List Row, PyData.canLayAll0 (M.map dRow) = true
  | [] => rfl
  | m :: M => by
    show (PyData.canLay0 (dRow m) && PyData.canLayAll0 (M.map dRow)) = true
    rw [dRows_lay M, dRow_lay m]
    rfl

theorem dRow_depth (m : Row) : (dRow m).depth = 1 := by
  show PyData.depthAll (m.map PyData.int) + 1 = 1
  rw [dInts_depth]

theorem dRows_depth : ∀ M : List Row, PyData.depthAll (M.map dRow) ≤ 1
  | [] => Nat.zero_le _
  | m :: M => by
    show max (PyData.depth (dRow m)) (PyData.depthAll (M.map dRow)) ≤ 1
    have := dRows_depth M
    have := dRow_depth m
    omega

theorem dRow_shaped (m : Row) : SeqAt.shaped (dRow m) = true := by
  show ((dRow m).canLay0 && decide ((dRow m).depth ≤ 64)) = true
  rw [dRow_lay, dRow_depth]
  rfl

theorem dTab_shaped (M : List Row) : SeqAt.shaped (dTab M) = true := by
  have h : (dTab M).depth ≤ 64 := by
    show PyData.depthAll (M.map dRow) + 1 ≤ 64
    have := dRows_depth M
    omega
  show ((dTab M).canLay0 && decide ((dTab M).depth ≤ 64)) = true
  rw [decide_eq_true h, show (dTab M).canLay0 = true from dRows_lay M]
  rfl

theorem dTab_eq (M : List Row) : PyData.eqv (dTab M) (dTab M) = true := SeqAt.eqv_refl _ (dRows_lay M)

theorem dRow_eq (m : Row) : PyData.eqv (dRow m) (dRow m) = true := SeqAt.eqv_refl _ (dRow_lay m)

theorem dpInts {K : PySem.W.Frag} {H : Hp} : ∀ m : List Int, DpAll K H (iv m) (m.map PyData.int)
  | [] => .nil
  | x :: m => .cons (.int x) (dpInts m)

theorem IL.dp {K : PySem.W.Frag} {H : Hp} {a : Addr} {m : Row} (h : IL H a m) : Dp K H (.ref a) (dRow m) := .lst (IL.sq h) (dpInts m)

theorem dpRows {K : PySem.W.Frag} {H : Hp} : ∀ (rs : List Addr) (M : List Row), rs.length = M.length → (∀ (i : Nat) r m, rs[i]? = some r → M[i]? = some m → IL H r m) → DpAll K H (rf rs) (M.map dRow)
  | [], [], _, _ => .nil
  | [], _ :: _, h, _ => by simp at h
  | _ :: _, [], h, _ => by simp at h
  | r :: rs, m :: M, h, hr => .cons (IL.dp (hr 0 r m rfl rfl)) (dpRows rs M (by simpa using h) fun i x y hx hy => hr (i + 1) x y hx hy)

theorem Tab.dp {K : PySem.W.Frag} {H : Hp} {a : Addr} {rs : List Addr} {M : List Row} (t : Tab H a rs M) : Dp K H (.ref a) (dTab M) := .lst (SqL.of t.at_) (dpRows rs M t.len t.row)

theorem Tab.rev {H : Hp} {a q : Addr} {rs : List Addr} {M : List Row} (t : Tab H a rs M) (h : H q = some (.lst (rf rs).reverse)) : Tab H q rs.reverse M.reverse := by
  refine ⟨by rw [h]; simp, by rw [List.length_reverse, List.length_reverse, t.len], fun i r m hr hm => ?_⟩
  have i1 := get_lt hr
  rw [List.length_reverse] at i1
  rw [List.getElem?_reverse i1] at hr
  rw [List.getElem?_reverse (by have := t.len; omega)] at hm
  rw [t.len] at hr
  exact t.row _ r m hr hm

/-- all but what stands at these places is as it was -/
def OffS (S : List Addr) (H H' : Hp) : Prop := ∀ b o, b ∉ S → H b = some o → H' b = some o

theorem Tab.offS {S : List Addr} {H H' : Hp} {a : Addr} {rs : List Addr} {M : List Row} (t : Tab H a rs M) (o : OffS S H H') (h : a ∉ S) (h2 : ∀ r ∈ rs, r ∉ S) : Tab H' a rs M :=
  ⟨o _ _ h t.at_, t.len, fun i r m hr hm => o _ _ (h2 r (List.mem_of_getElem? hr)) (t.row i r m hr hm)⟩

theorem cIsi {X : Cx} (K : PySem.W.Frag) (h : X.K = K) : CallR X (.builtin "isinstance") (rIsi K) := h ▸ call_isi

theorem cAll {X : Cx} (K : PySem.W.Frag) (h : X.K = K) (hc : X.calm = true) : CallR X (.builtin "all") (rAll K) := h ▸ cr_all hc

theorem Tab.fresh_off {H : Hp} {a b : Addr} {rs qs : List Addr} {M : List Row} (t : Tab H a rs M) (h : H b = none) (h2 : ∀ q ∈ qs, H q = none) : a ∉ b :: qs ∧ ∀ r ∈ rs, r ∉ b :: qs := by
  have key : ∀ r o, H r = some o → r ∉ b :: qs := fun r o e m => by
    rcases List.mem_cons.mp m with z | z
    · rw [z, h] at e
      cases e
    · rw [h2 r z] at e
      cases e
  refine ⟨key a _ t.at_, fun r hr => ?_⟩
  obtain ⟨m, _, hm⟩ := IL.ref t hr
  exact key r _ hm
end

section
variable {P : Program} {w : World} {K : PySem.W.Frag} {mg : Str → Option Value} {base : Heap}
theorem cSum {X : Cx} (K : PySem.W.Frag) (h : X.K = K) (hc : X.calm = true) : CallR X (.builtin "sum") (rSum K) := h ▸ cr_sum hc
theorem plain_ints : ∀ m : List Int, PyData.plainAll (m.map PyData.int) = true
  | [] => rfl
  | x :: m => by
    show (PyData.plain (.int x) && PyData.plainAll (m.map PyData.int)) = true
    rw [plain_ints m]
    rfl
/-- any(list of ints) -/
theorem cAnyI {X : Cx} (hc : X.calm = true) : CallR X (.builtin "any") (fun xs H Q => ∃ (a : Addr) (m : List Int), xs = [.ref a] ∧ IL H a m ∧ Q (.bl (m.any fun x => x != 0)) H) := by
  intro pins s σ H vs us Q I r h
  obtain ⟨a, m, rfl, hm, q⟩ := h
  obtain ⟨its, rv, hl, _⟩ := I.list (IL.sq (K := X.K) hm)
  obtain ⟨as, hr⟩ := Dp.readsAll I _ _ its (dpInts m) rv
  rw [Vals.ref1 r]
  refine PySem.W.any_list_data (I.ok.hd hc) hl.isList (by simpa using hr) (plain_ints m) (fun x hx => ?_) fun h' tk hk => ⟨.bl _, H, I.kept fun b o eo => hk b o eo, ?_, q⟩
  · obtain ⟨y, _, rfl⟩ := List.mem_map.mp hx
    trivial
  · show Value.bool _ = Value.bool _
    rw [List.any_map]
    rfl
theorem eqvAll_ints : ∀ a b : List Int, PyData.eqvAll (a.map PyData.int) (b.map PyData.int) = decide (a = b)
  | [], [] => rfl
  | [], y :: b => by
    rw [decide_eq_false (by simp)]
    rfl
  | x :: a, [] => by
    rw [decide_eq_false (by simp)]
    rfl
  | x :: a, y :: b => by
    show (PyData.eqv (.int x) (.int y) && PyData.eqvAll (a.map PyData.int) (b.map PyData.int)) = _
    rw [eqvAll_ints a b, show PyData.eqv (.int x) (.int y) = decide (x = y) from by simp [PyData.eqv]; rfl]
    by_cases h : x = y
    · by_cases h2 : a = b
      · simp [h, h2]
      · simp [h, h2]
    · simp [h]
theorem dRow_eqv (a b : Row) : PyData.eqv (dRow a) (dRow b) = decide (a = b) := by
  show PyData.eqv (.list _) (.list _) = _
  rw [PyData.eqv]
  exact eqvAll_ints a b
theorem rep_zeros (n : Nat) : (List.replicate (n : Int).toNat [V.int 0]).flatten = iv (zeros n) := by
  rw [Int.toNat_natCast]
  unfold zeros
  induction n with
  | zero => rfl
  | succ n ih =>
    rw [List.replicate_succ, List.flatten_cons, ih, List.replicate_succ]
    rfl
theorem all_flat (m : List Int) : (iv m).all flatV = true := List.all_eq_true.mpr fun v hv => by
  obtain ⟨x, _, rfl⟩ := List.mem_map.mp hv
  rfl
theorem low_ne {p : Int} {n : Nat} {F : List Row} {ls : List Nat} (L : Low p n F ls) {i : Nat} {r : Row} (h : F[i]? = some r) : ∃ l, ls[i]? = some l ∧ l < n ∧ (∀ j, j < l → ent r j = 0) ∧ ent r l = 1 := by
  obtain ⟨l, hl⟩ := get_of (l := ls) (i := i) (by have := get_lt h; have := L.dl.1; omega)
  refine ⟨l, hl, L.lt l (List.mem_of_getElem? hl), L.zb i r l h hl, ?_⟩
  rw [L.dl.2 i i r l h hl, if_pos rfl]
end

def lsI (ls : List Nat) : List Int := ls.map fun (l : Nat) => Int.ofNat l
theorem lsI_get {ls : List Nat} {i l : Nat} (h : ls[i]? = some l) : (lsI ls)[i]? = some (l : Int) := by
  unfold lsI
  rw [List.getElem?_map, h]
  rfl
theorem lsI_len (ls : List Nat) : (lsI ls).length = ls.length := List.length_map _
theorem inV_int (x : Int) : ∀ m : List Int, inV (.int x) (iv m) = decide (x ∈ m)
  | [] => rfl
  | y :: m => by
    show (eqV (.int y) (.int x) || inV (.int x) (iv m)) = _
    rw [inV_int x m, show eqV (.int y) (.int x) = (y == x) from rfl]
    by_cases h : x = y
    · subst h
      simp
    · have h2 : (y == x) = false := by simpa using fun e => h e.symm
      rw [h2]
      simp [h]
theorem lsI_mem {ls : List Nat} {i : Nat} : (i : Int) ∈ lsI ls ↔ i ∈ ls := by
  unfold lsI
  rw [List.mem_map]
  constructor
  · rintro ⟨l, hl, e⟩
    have : l = i := Int.ofNat.inj e
    exact this ▸ hl
  · intro h
    exact ⟨i, h, rfl⟩
theorem outs_succ {ls : List Nat} {i : Nat} : outs (i + 1) ls = outs i ls ++ (if i ∈ ls then [] else [i]) := by
  unfold outs
  rw [List.range_succ, List.filter_append]
  congr 1
  by_cases h : i ∈ ls
  · rw [if_pos h, List.filter_cons_of_neg (by simpa using h)]
    rfl
  · rw [if_neg h, List.filter_cons_of_pos (by simpa using h)]
    rfl
theorem drop_get {α : Type} {l : List α} {i : Nat} {x : α} (h : l[i]? = some x) : l.drop i = x :: l.drop (i + 1) := by
  rw [List.drop_eq_getElem_cons (get_lt h), show l[i]'(get_lt h) = x from Option.some.inj ((List.getElem?_eq_getElem (get_lt h)).symm.trans h)]
theorem ix_set {n : Nat} {i : Nat} (h : i < n) : ixN n (i : Int) = some i := by
  unfold ixN
  rw [if_pos (by omega), if_pos (by omega)]
  rfl
theorem IL.set {H : Hp} {z : Addr} {m : Row} {i : Nat} {x : Int} : IL (L2.upd H z (.lst ((iv m).set i (.int x)))) z (m.set i x) := by
  show (L2.upd H z _) z = _
  rw [upd_same]
  show some (HO.lst ((m.map V.int).set i (V.int x))) = some (HO.lst ((m.set i x).map V.int))
  rw [List.map_set]
def unitR (n i : Nat) : Row := (List.range n).map fun j => if i = j then 1 else 0
def idM (n : Nat) : List Row := (List.range n).map (unitR n)
theorem unitR_len {n i : Nat} : (unitR n i).length = n := by
  unfold unitR
  rw [List.length_map, List.length_range]
theorem unitR_get {n i j : Nat} (h : j < n) : (unitR n i)[j]? = some (if i = j then 1 else 0) := by
  unfold unitR
  rw [List.getElem?_map, List.getElem?_range h]
  rfl
theorem unitR_ent {n i j : Nat} (h : j < n) : ent (unitR n i) j = if i = j then 1 else 0 := by
  have a := ent_some (r := unitR n i) (j := j) (by rw [unitR_len]; exact h)
  rw [unitR_get h] at a
  exact (Option.some.inj a).symm
theorem unitR_wf {p : Int} (hp : 2 ≤ p) {n i : Nat} : Wf p n (unitR n i) := ⟨unitR_len, fun x hx => by
  obtain ⟨j, _, rfl⟩ := List.mem_map.mp hx
  split <;> omega⟩
theorem idM_get {n i : Nat} (h : i < n) : (idM n)[i]? = some (unitR n i) := by
  unfold idM
  rw [List.getElem?_map, List.getElem?_range h]
  rfl
theorem idM_len {n : Nat} : (idM n).length = n := by
  unfold idM
  rw [List.length_map, List.length_range]
theorem range_get {n i l : Nat} (h : (List.range n)[i]? = some l) : i < n ∧ l = i := by
  have h1 := get_lt h
  rw [List.length_range] at h1
  rw [List.getElem?_range h1] at h
  exact ⟨h1, (Option.some.inj h).symm⟩
theorem idM_low {p : Int} (hp : 2 ≤ p) {n : Nat} : Low p n (idM n) (List.range n) := by
  refine ⟨fun r hr => ?_, ⟨by rw [List.length_range, idM_len], fun i k r l hi hk => ?_⟩, fun l hl => List.mem_range.mp hl, List.pairwise_lt_range, fun i r l hi hl m hm => ?_⟩
  · obtain ⟨i, _, rfl⟩ := List.mem_map.mp hr
    exact unitR_wf hp
  · obtain ⟨h1, rfl⟩ := range_get hk
    have h2 := get_lt hi
    rw [idM_len] at h2
    rw [idM_get h2] at hi
    rw [← Option.some.inj hi]
    exact unitR_ent h1
  · obtain ⟨h1, rfl⟩ := range_get hl
    rw [idM_get h1] at hi
    rw [← Option.some.inj hi, unitR_ent (by omega), if_neg (by omega)]
theorem nil_low {p : Int} {n : Nat} : Low p n [] [] := ⟨fun r hr => by simp at hr, ⟨rfl, fun i k r l hi _ => by simp at hi⟩, fun l hl => by simp at hl, List.Pairwise.nil, fun i r l hi _ => by simp at hi⟩
theorem cInt {X : Cx} : CallR X (.type "int") (fun xs H Q => ∃ k, xs = [.bl k] ∧ Q (.int (if k = true then 1 else 0)) H) := by
  intro pins s σ H xs us Q I r h
  exact call_int1 pins s σ H xs us Q I r (.inr h)
theorem top_bound (z : Int) (hz : 0 ≤ z) (t : Int) (ht : 3 ≤ t) : 0 ≤ (if (if t < z then t else z) > 3 then (if t < z then t else z) else 3) ∧ (if (if t < z then t else z) > 3 then (if t < z then t else z) else 3) ≤ t := by
  by_cases h : t < z
  · rw [if_pos h]
    by_cases h2 : t > 3
    · rw [if_pos h2]; omega
    · rw [if_neg h2]; omega
  · rw [if_neg h]
    by_cases h2 : z > 3
    · rw [if_pos h2]; omega
    · rw [if_neg h2]; omega

theorem at_last {m : Row} (h : m ≠ []) : atI (iv m) (-1) = some (.int (lastE m)) := by
  have e : m = m.dropLast ++ [m.getLast h] := (List.dropLast_concat_getLast h).symm
  have l : m.getLast h = lastE m := by
    have hl := ne_nil_len.mp h
    unfold lastE
    rw [List.getLast_eq_getElem, ← getD_el m 0 (by omega)]
    rfl
  have e2 : iv m = iv m.dropLast ++ [.int (m.getLast h)] := by
    conv => lhs; rw [e]
    simp
  rw [e2, atI_last, l]
theorem iv_empty (m : Row) : (iv m).isEmpty = m.isEmpty := by cases m <;> rfl
theorem ent_take {m : Row} {e : Nat} (h : ∀ k, e ≤ k → ent m k = 0) (k : Nat) : ent (m.take e) k = ent m k := by
  by_cases hk : k < e
  · unfold ent
    rw [List.getD_eq_getElem?_getD, List.getD_eq_getElem?_getD, List.getElem?_take, if_pos hk]
  · rw [h k (by omega)]
    exact ent_out (by rw [List.length_take]; omega)
theorem cut_last (xs : List V) : cutV xs none (some (-1)) = xs.dropLast := by
  unfold cutV
  rw [HT.sIx_none, show HT.sIx xs.length xs.length (some (-1)) = xs.length - 1 by
    show (if ((-1 : Int)) < 0 then ((-1 : Int) + (xs.length : Int)).toNat else min ((-1 : Int)).toNat xs.length) = _
    rw [if_pos (by decide)]
    omega]
  rw [List.drop_zero, Nat.sub_zero, List.dropLast_eq_take]
theorem iv_dropLast (m : Row) : (iv m).dropLast = iv m.dropLast := by
  rw [List.dropLast_eq_take, List.dropLast_eq_take, List.length_map]
  show (m.map V.int).take (m.length - 1) = (m.take (m.length - 1)).map V.int
  rw [List.map_take]
theorem ent_dropLast {m : Row} (h : lastE m = 0) (k : Nat) : ent m.dropLast k = ent m k := by
  rw [List.dropLast_eq_take]
  refine ent_take (fun j hj => ?_) k
  by_cases e : j = m.length - 1
  · rw [e]
    exact h
  · exact ent_out (by omega)
theorem dropLast_rng {p : Int} {m : Row} (h : ∀ x ∈ m, 0 ≤ x ∧ x < p) : ∀ x ∈ m.dropLast, 0 ≤ x ∧ x < p := fun x hx => h x (by
  rw [List.dropLast_eq_take] at hx
  exact List.mem_of_mem_take hx)

theorem Tab.self_off {H : Hp} {a : Addr} {rs : List Addr} {M : List Row} (t : Tab H a rs M) : a ∉ rs := fun hm => by
  obtain ⟨mm, _, hmm⟩ := IL.ref t hm
  cases hq : rs with
  | nil => rw [hq] at hm; simp at hm
  | cons x xs =>
    have z := t.at_
    rw [hq] at z
    exact rf_ne z hmm rfl
theorem Tab.cat {H : Hp} {a b q : Addr} {rs ss : List Addr} {M N : List Row} (t : Tab H a rs M) (u : Tab H b ss N) (h : H q = some (.lst (rf rs ++ rf ss))) : Tab H q (rs ++ ss) (M ++ N) := by
  refine ⟨by rw [h]; simp, by rw [List.length_append, List.length_append, t.len, u.len], fun i r m hr hm => ?_⟩
  by_cases hi : i < rs.length
  · rw [List.getElem?_append_left hi] at hr
    rw [List.getElem?_append_left (by have := t.len; omega)] at hm
    exact t.row i r m hr hm
  · rw [List.getElem?_append_right (by omega)] at hr
    rw [List.getElem?_append_right (by have := t.len; omega), ← t.len] at hm
    exact u.row _ r m hr hm
def dTwo (F G : List Row) : PyData := .list [dTab F, dTab G]
theorem dTwo_lay (F G : List Row) : (dTwo F G).canLay0 = true := by
  show ((dTab F).canLay0 && ((dTab G).canLay0 && true)) = true
  rw [show (dTab F).canLay0 = true from dRows_lay F, show (dTab G).canLay0 = true from dRows_lay G]
  rfl
theorem dTwo_shaped (F G : List Row) : SeqAt.shaped (dTwo F G) = true := by
  have d : ∀ F : List Row, (dTab F).depth ≤ 2 := fun F => by
    show PyData.depthAll (F.map dRow) + 1 ≤ 2
    have := dRows_depth F
    omega
  have h : (dTwo F G).depth ≤ 64 := by
    show max (dTab F).depth (max (dTab G).depth 0) + 1 ≤ 64
    have h1 := d F
    have h2 := d G
    omega
  show ((dTwo F G).canLay0 && decide ((dTwo F G).depth ≤ 64)) = true
  rw [decide_eq_true h, dTwo_lay]
  rfl
theorem dTwo_eq (F G : List Row) : PyData.eqv (dTwo F G) (dTwo F G) = true := SeqAt.eqv_refl _ (dTwo_lay F G)
theorem dp_two {K : PySem.W.Frag} {H : Hp} {q a b : Addr} {rs ss : List Addr} {F G : List Row} (h : H q = some (.lst [.ref a, .ref b])) (t : Tab H a rs F) (u : Tab H b ss G) : Dp K H (.ref q) (dTwo F G) := .lst (SqL.of h) (.cons t.dp (.cons u.dp .nil))
theorem in_true {p : Int} {n : Nat} (hp : 2 ≤ p) {F : List Row} {ls : List Nat} (L : Low p n F ls) {m : Row} (w : Wf p n m) (h : Spn p n F (ent m)) : mixM p (shr ls m) F n = m := (mix_zero hp L w).mpr (spn_red L.dl L.lt h)

section
variable {P : Program} {w : World} {K : PySem.W.Frag} {mg : Str → Option Value} {base : Heap}
/-- a walk of a comprehension's clause, whatever a turn asks for its next one -/
theorem out_it {J : It} {n : Nat} {G : Hp → Prop} {Y : Nat → Hp → V → Hp → Prop} (w : Walk J n G Y) {g : TG} {σ : L2.St} {F : (Hp → Prop) → L2.St → Hp → Prop} {H0 : Hp} {Qd : Hp → Prop} (Pv : Nat → Hp → Prop) (h0 : Pv 0 H0) (hG : ∀ i H, i ≤ n → Pv i H → G H)
    (hs : ∀ i x H H', i < n → Pv i H → Y i H x H' → g x σ H' (F (Pv (i + 1)))) (hd : ∀ H, Pv n H → Qd H) :
    ∃ W : Nat → Nat → Hp → Prop, (∃ m, W 0 m H0) ∧ ∀ i m H, W i m H →
      (J.stop i H ∧ Qd H) ∨ (J.go i H ∧ ∃ Nx : Hp → Prop, (∀ H', Nx H' → ∃ m', m' < m ∧ W (i + 1) m' H') ∧ ∀ x H', J.yld i H x H' → g x σ H' (F Nx)) := by
  refine ⟨fun i m H => m = n - i ∧ i ≤ n ∧ Pv i H, ⟨n, by simp, Nat.zero_le _, h0⟩, ?_⟩
  rintro i m H ⟨rfl, hi, p⟩
  have q := hG i H hi p
  by_cases hlt : i < n
  · exact .inr ⟨w.goes i H hlt q, Pv (i + 1), fun H' p' => ⟨n - (i + 1), by omega, rfl, hlt, p'⟩, fun x H' y => hs i x H H' hlt p (w.yields i H x H' hlt q y)⟩
  · have e : i = n := by omega
    subst e
    exact .inl ⟨w.stops H q, hd H p⟩
/-- a clause's turn without a test -/
theorem c_yes {A N : Hp → Prop} {σ : L2.St} {H : Hp} (h : A H) : tYes σ H (fun b H3 => if b = true then A H3 else N H3) := iteT (B := N H) h
/-- a list of new rows that is being made at D -/
structure Mw (H : Hp) (D : Addr) (G : List Row) (H' : Hp) (qs : List Addr) : Prop where
  same : Same H H'
  tab : Tab H' D qs G
  fresh : ∀ q ∈ qs, H q = none
  nd : qs.Nodup
theorem Mw.start {H : Hp} {D : Addr} (h : H D = none) : Mw H D [] (upd H D (.lst [])) [] := ⟨same_new h, ⟨upd_same, rfl, fun i r m hr => by simp at hr⟩, fun q hq => by simp at hq, List.nodup_nil⟩
theorem Mw.push {H H' H2 : Hp} {D q : Addr} {G : List Row} {qs : List Addr} {g : Row} (m : Mw H D G H' qs) (hD : H D = none) (s : Same H' H2) (nq : H' q = none) (hq : IL H2 q g) (hl : G.length ≤ 1000) :
    ∃ acc, H2 D = some (.lst acc) ∧ acc.length < sizeLine ∧ Mw H D (G ++ [g]) (upd H2 D (.lst (acc ++ [.ref q]))) (qs ++ [q]) := by
  have t2 := m.tab.same s
  have ne : q ≠ D := fun z => by
    rw [z] at nq
    exact absurd (nq.symm.trans m.tab.at_) (by simp)
  refine ⟨_, t2.at_, ?_, same_upd hD (m.same.trans s), t2.push hq ne, fun u hu => ?_, nodup_snoc m.nd fun hm => ?_⟩
  · rw [List.length_map, m.tab.len]
    exact small1000 hl
  · rcases List.mem_append.mp hu with h | h
    · exact m.fresh u h
    · rw [List.mem_singleton.mp h]
      exact same_none m.same nq
  · obtain ⟨x, _, hx⟩ := IL.ref m.tab hm
    exact absurd (nq.symm.trans hx) (by simp)
theorem cat_il {H : Hp} {v : Addr} {a b : Row} : IL (L2.upd H v (.lst (iv a ++ iv b))) v (a ++ b) := by
  show (L2.upd H v _) v = _
  rw [upd_same]
  simp
end

section
variable {P : Program} {w : World} {K : PySem.W.Frag} {mg : Str → Option Value} {base : Heap}
/-- a row and two tables -/
def dTrip (r : Row) (A B : List Row) : PyData := .list [dRow r, dTab A, dTab B]
theorem dTab_depth (M : List Row) : (dTab M).depth ≤ 2 := by
  show PyData.depthAll (M.map dRow) + 1 ≤ 2
  have := dRows_depth M
  omega
theorem dTrip_lay (r : Row) (A B : List Row) : (dTrip r A B).canLay0 = true := by
  show ((dRow r).canLay0 && ((dTab A).canLay0 && ((dTab B).canLay0 && true))) = true
  rw [dRow_lay, show (dTab A).canLay0 = true from dRows_lay A, show (dTab B).canLay0 = true from dRows_lay B]
  rfl
theorem dTrip_shaped (r : Row) (A B : List Row) : SeqAt.shaped (dTrip r A B) = true := by
  have h : (dTrip r A B).depth ≤ 64 := by
    show max (dRow r).depth (max (dTab A).depth (max (dTab B).depth 0)) + 1 ≤ 64
    have := dTab_depth A
    have := dTab_depth B
    have := dRow_depth r
    omega
  show ((dTrip r A B).canLay0 && decide ((dTrip r A B).depth ≤ 64)) = true
  rw [decide_eq_true h, dTrip_lay]
  rfl
theorem dTrip_eq (r : Row) (A B : List Row) : PyData.eqv (dTrip r A B) (dTrip r A B) = true := SeqAt.eqv_refl _ (dTrip_lay r A B)
theorem trip_dp {H : Hp} {z a b c : Addr} {rs qs : List Addr} {r : Row} {A B : List Row} (hz : H z = some (.lst [.ref c, .ref a, .ref b])) (hc : IL H c r) (ta : Tab H a rs A) (tb : Tab H b qs B) : Dp K H (.ref z) (dTrip r A B) :=
  .lst (SqL.of hz) (.cons hc.dp (.cons ta.dp (.cons tb.dp .nil)))
theorem Tab.one {H : Hp} {z a : Addr} {r : Row} (hz : H z = some (.lst [.ref a])) (ha : IL H a r) : Tab H z [a] [r] := ⟨hz, rfl, fun i u m hu hm => by
  match i with
  | 0 =>
    cases Option.some.inj hu
    cases Option.some.inj hm
    exact ha
  | i + 1 => simp at hu⟩
theorem Tab.get {H : Hp} {a : Addr} {rs : List Addr} {M : List Row} (t : Tab H a rs M) {i : Nat} (h : i < M.length) : ∃ r m, rs[i]? = some r ∧ M[i]? = some m ∧ IL H r m := by
  obtain ⟨m, hm⟩ := get_of (l := M) (i := i) h
  obtain ⟨r, hr⟩ := get_of (l := rs) (i := i) (by rw [t.len]; exact h)
  exact ⟨r, m, hr, hm, t.row i r m hr hm⟩
end

/-! ways into a text -/
def eL : Expr → Expr
  | .BinOp l _ _ _ => l
  | e => e
def eR : Expr → Expr
  | .BinOp _ _ r _ => r
  | e => e
def eU : Expr → Expr
  | .UnaryOp _ e _ => e
  | e => e
def eI (e : Expr) (i : Nat) : Expr := match e with
  | .List xs _ => xs.getD i e
  | .Tuple xs _ _ => xs.getD i e
  | e => e
def eA (e : Expr) (i : Nat) : Expr := match e with
  | .Call _ xs _ _ => xs.getD i e
  | e => e
def eB (e : Expr) (i : Nat) : Expr := match e with
  | .BoolOp _ xs _ => xs.getD i e
  | e => e
def eCl : Expr → Expr
  | .Compare l _ _ _ => l
  | e => e
def eCr : Expr → Expr
  | .Compare l _ (r :: _) _ => r
  | e => e
def eT : Expr → Expr
  | .IfExp t _ _ _ => t
  | e => e
def eTb : Expr → Expr
  | .IfExp _ t _ _ => t
  | e => e
def eTo : Expr → Expr
  | .IfExp _ _ t _ => t
  | e => e
def eV : Expr → Expr
  | .Subscript v _ _ => v
  | e => e
def eS : Expr → Expr
  | .Subscript _ s _ => s
  | e => e
def eG : Expr → Expr
  | .ListComp _ (g :: _) _ _ => g.iter
  | e => e
def eF : Expr → Expr
  | .ListComp _ (g :: _) _ _ => g.ifs.getD 0 (.Name "" ⟨0, 0, 0, 0⟩)
  | e => e
def eE : Expr → Expr
  | .ListComp e _ _ _ => e
  | e => e
def eX : Expr := .Name "" ⟨0, 0, 0, 0⟩
def stX : Stmt → Expr
  | .Return (some e) _ => e
  | .Assign _ e _ => e
  | .Expr e _ => e
  | .AugAssign _ _ e _ => e
  | _ => eX
def stT : Stmt → Expr
  | .If t _ _ _ => t
  | .While t _ _ _ => t
  | _ => eX
def stI : Stmt → Expr
  | .For _ i _ _ _ => i
  | _ => eX
def stB : Stmt → List Stmt
  | .If _ b _ _ => b
  | .For _ _ b _ _ => b
  | .While _ b _ _ => b
  | _ => []
def stO : Stmt → List Stmt
  | .If _ _ b _ => b
  | .For _ _ _ b _ => b
  | _ => []
section
variable {K : PySem.W.Frag}
theorem ixT {X : Cx} (K : PySem.W.Frag) (h : X.K = K := by rfl) : IxR X (rIxT K) := h ▸ ix_tup
theorem piE {X : Cx} (K : PySem.W.Frag) {e : Expr} {ta : TA} {p pos tpos : Pos} {elts : List Expr} {kk : Nat} (h : X.K = K) (hg : Gl X "enumerate") (hm : X.mg "enumerate" = none) (ha : PA X [e] ta) (hs : starEach [e] X.env = [(false, eval e X.env)] := by rfl) :
    PI X (.Tuple elts kk tpos) (.Call (.Name "enumerate" p) [e] [] pos) (iEnum K ta) := h ▸ pi_enum hg hm ha hs
theorem piT {X : Cx} (K : PySem.W.Frag) {tg l : Expr} {tl : TE} (h : X.K = K) (hl : PE X l tl) : PI X tg l (iTup K tl) := h ▸ pi_tup hl
theorem piRev {X : Cx} (K : PySem.W.Frag) {tg e : Expr} {ta : TA} {p pos : Pos} (h : X.K = K) (hg : Gl X "reversed") (hm : X.mg "reversed" = none) (ha : PA X [e] ta) (hs : starEach [e] X.env = [(false, eval e X.env)] := by rfl) : PI X tg (.Call (.Name "reversed" p) [e] [] pos) (iRev K ta) := h ▸ pi_reversed hg hm ha hs
theorem cAny {X : Cx} (K : PySem.W.Frag) (h : X.K = K) (hc : X.calm = true) : CallR X (.builtin "any") (rAny K) := h ▸ cr_any hc
theorem cTup {X : Cx} (K : PySem.W.Frag) (h : X.K = K) : CallR X (.type "tuple") (fun xs H Q => ∃ p ys, xs = [.ref p] ∧ ((SqL K H p ys ∧ ∀ l, H l = none → Q (.ref l) (upd H l (.tup ys))) ∨ (SqT K H p ys ∧ Q (.ref p) H))) := h ▸ call_tuple_of
theorem opCatT {X : Cx} (K : PySem.W.Frag) (h : X.K = K := by rfl) : OpR X (binaryOp .Add) (rCatT K) := h ▸ op_catT
end

section
/-! heaps with a place hidden, with what is new alone; lists of things of a kind -/
def wo (b : Addr) (H : Hp) : Hp := fun q => if q = b then none else H q
theorem wo_ne {b q : Addr} {H : Hp} (h : q ≠ b) : wo b H q = H q := if_neg h
theorem wo_inv {b q : Addr} {H : Hp} {o : HO} (h : wo b H q = some o) : q ≠ b ∧ H q = some o := by
  unfold wo at h
  by_cases c : q = b
  · rw [if_pos c] at h; cases h
  · rw [if_neg c] at h; exact ⟨c, h⟩
theorem wo_upd {b : Addr} {H : Hp} {o : HO} : wo b (upd H b o) = wo b H := by
  funext q
  unfold wo
  by_cases c : q = b
  · rw [if_pos c, if_pos c]
  · rw [if_neg c, if_neg c, upd_ne c]
theorem wo_same {b : Addr} {H : Hp} : Same (wo b H) H := fun _ _ e => (wo_inv e).2
theorem same_wo {b : Addr} {H H' : Hp} (s : Same H H') : Same (wo b H) (wo b H') := fun q o e => by
  obtain ⟨e1, e2⟩ := wo_inv e
  rw [wo_ne e1]
  exact s q o e2
theorem Off.wo {b : Addr} {H H' : Hp} (s : Off b H H') : Same (wo b H) (wo b H') := fun q o e => by
  obtain ⟨e1, e2⟩ := wo_inv e
  rw [wo_ne e1]
  exact s q o e1 e2
theorem Off.ofwo {b : Addr} {H H' : Hp} (s : Same (My.wo b H) (My.wo b H')) : Off b H H' := fun q o n e => by
  have := s q o (by rw [wo_ne n]; exact e)
  exact (wo_inv this).2
theorem wo_none {b q : Addr} {H : Hp} (h : H q = none) : wo b H q = none := by
  unfold wo
  split
  · rfl
  · exact h
def nw (H0 H : Hp) : Hp := fun q => if H0 q = none then H q else none
theorem nw_at {H0 H : Hp} {q : Addr} (h : H0 q = none) : nw H0 H q = H q := if_pos h
theorem nw_inv {H0 H : Hp} {q : Addr} {o : HO} (h : nw H0 H q = some o) : H0 q = none ∧ H q = some o := by
  unfold nw at h
  by_cases c : H0 q = none
  · rw [if_pos c] at h; exact ⟨c, h⟩
  · rw [if_neg c] at h; cases h
theorem nw_same {H0 H : Hp} : Same (nw H0 H) H := fun _ _ e => (nw_inv e).2
theorem nw_mono {H0 H H' : Hp} (s : Same H H') : Same (nw H0 H) (nw H0 H') := fun q o e => by
  obtain ⟨e1, e2⟩ := nw_inv e
  rw [nw_at e1]
  exact s q o e2
theorem nw_back {H0 H1 H : Hp} (s : Same H0 H1) : Same (nw H1 H) (nw H0 H) := fun q o e => by
  obtain ⟨e1, e2⟩ := nw_inv e
  rw [nw_at (s.free e1)]
  exact e2
theorem nw_wo {H0 H : Hp} {D : Addr} {o : HO} (h : H0 D = some o) : Same (nw H0 H) (wo D (nw H0 H)) := fun q u e => by
  obtain ⟨e1, e2⟩ := nw_inv e
  rw [wo_ne (fun z => by rw [z, h] at e1; cases e1)]
  exact e
/-- what was there outlives a change of what is new -/
theorem same_updN {H0 H : Hp} {q : Addr} {o : HO} (h : H0 q = none) (s : Same H0 H) : Same H0 (upd H q o) := same_upd h s
theorem take_snoc {α : Type} {G : List α} {i : Nat} {g : α} (h : G[i]? = some g) : G.take i ++ [g] = G.take (i + 1) := by
  rw [List.take_add_one, h]
  rfl
inductive Al {α : Type} (R : Hp → V → α → Prop) (H : Hp) : List V → List α → Prop
  | nil : Al R H [] []
  | cons {v : V} {x : α} {vs : List V} {xs : List α} : R H v x → Al R H vs xs → Al R H (v :: vs) (x :: xs)
section
variable {α : Type} {R : Hp → V → α → Prop}
def Mono (R : Hp → V → α → Prop) : Prop := ∀ (H H' : Hp) (v : V) (x : α), Same H H' → R H v x → R H' v x
theorem Al.same (mo : Mono R) {H H' : Hp} (s : Same H H') : ∀ {vs : List V} {xs : List α}, Al R H vs xs → Al R H' vs xs
  | _, _, .nil => .nil
  | _, _, .cons h t => .cons (mo _ _ _ _ s h) (t.same mo s)
theorem Al.len {H : Hp} : ∀ {vs : List V} {xs : List α}, Al R H vs xs → vs.length = xs.length
  | _, _, .nil => rfl
  | _, _, .cons _ t => congrArg (· + 1) t.len
theorem Al.get {H : Hp} : ∀ {vs : List V} {xs : List α} {i : Nat} {v : V} {x : α}, Al R H vs xs → vs[i]? = some v → xs[i]? = some x → R H v x
  | _, _, 0, _, _, .cons h _, h1, h2 => by
    simp at h1 h2
    rw [← h1, ← h2]
    exact h
  | _, _, i + 1, _, _, .cons _ t, h1, h2 => t.get (i := i) (by simpa using h1) (by simpa using h2)
theorem Al.at {H : Hp} {vs : List V} {xs : List α} {i : Nat} {x : α} (a : Al R H vs xs) (h : xs[i]? = some x) : ∃ v, vs[i]? = some v ∧ R H v x := by
  obtain ⟨v, hv⟩ := get_of (l := vs) (i := i) (by have := get_lt h; have := a.len; omega)
  exact ⟨v, hv, a.get hv h⟩
theorem Al.of {H : Hp} {vs : List V} {xs : List α} {i : Nat} {v : V} (a : Al R H vs xs) (h : vs[i]? = some v) : ∃ x, xs[i]? = some x ∧ R H v x := by
  obtain ⟨x, hx⟩ := get_of (l := xs) (i := i) (by have := get_lt h; have := a.len; omega)
  exact ⟨x, hx, a.get h hx⟩
theorem Al.app {H : Hp} : ∀ {vs us : List V} {xs ys : List α}, Al R H vs xs → Al R H us ys → Al R H (vs ++ us) (xs ++ ys)
  | _, _, _, _, .nil, h => h
  | _, _, _, _, .cons a t, h => .cons a (t.app h)
theorem Al.take {H : Hp} : ∀ {vs : List V} {xs : List α} (n : Nat), Al R H vs xs → Al R H (vs.take n) (xs.take n)
  | _, _, 0, _ => by rw [List.take_zero, List.take_zero]; exact .nil
  | _, _, _ + 1, .nil => .nil
  | _, _, n + 1, .cons a t => .cons a (t.take n)
theorem Al.drop {H : Hp} : ∀ {vs : List V} {xs : List α} (n : Nat), Al R H vs xs → Al R H (vs.drop n) (xs.drop n)
  | _, _, 0, h => h
  | _, _, _ + 1, .nil => .nil
  | _, _, n + 1, .cons _ t => t.drop n
theorem Al.mem {H : Hp} : ∀ {vs : List V} {xs : List α} {v : V}, Al R H vs xs → v ∈ vs → ∃ x, x ∈ xs ∧ R H v x
  | _, _, v, .cons (x := x) h t, m => by
    rcases List.mem_cons.mp m with e | m
    · exact ⟨x, List.mem_cons_self, e ▸ h⟩
    · obtain ⟨y, h1, h2⟩ := t.mem m
      exact ⟨y, List.mem_cons_of_mem _ h1, h2⟩
/-- a list of things that is being made at D -/
structure Mb (R : Hp → V → α → Prop) (H : Hp) (D : Addr) (G : List α) (H' : Hp) : Prop where
  same : Same H H'
  all : ∃ vs, H' D = some (.lst vs) ∧ Al R (wo D (nw H H')) vs G
theorem Mb.start {H : Hp} {D : Addr} (h : H D = none) : Mb R H D [] (upd H D (.lst [])) := ⟨same_new h, [], upd_same, .nil⟩
theorem Mb.push (mo : Mono R) {H H' H2 : Hp} {D : Addr} {G : List α} {g : α} {v : V} (m : Mb R H D G H') (hD : H D = none) (s : Same H' H2) (hv : R (nw H' H2) v g) (hl : G.length ≤ 1000) :
    ∃ acc, H2 D = some (.lst acc) ∧ acc.length < sizeLine ∧ Mb R H D (G ++ [g]) (upd H2 D (.lst (acc ++ [v]))) := by
  obtain ⟨vs, e, al⟩ := m.all
  refine ⟨vs, s _ _ e, ?_, same_upd hD (m.same.trans s), vs ++ [v], upd_same, ?_⟩
  · rw [al.len]
    exact small1000 hl
  · have ew : wo D (nw H (upd H2 D (.lst (vs ++ [v])))) = wo D (nw H H2) := by
      funext q
      unfold wo
      by_cases c : q = D
      · rw [if_pos c, if_pos c]
      · rw [if_neg c, if_neg c]
        unfold nw
        rw [upd_ne c]
    rw [ew]
    refine (al.same mo (same_wo (nw_mono s))).app (.cons (mo _ _ _ _ ?_ hv) .nil)
    exact (nw_wo e).trans (same_wo (nw_back m.same))
theorem Mb.done (mo : Mono R) {H H' : Hp} {D : Addr} {G : List α} (m : Mb R H D G H') : ∃ vs, H' D = some (.lst vs) ∧ Al R (nw H H') vs G := by
  obtain ⟨vs, e, al⟩ := m.all
  exact ⟨vs, e, al.same mo wo_same⟩
end
/-- a row, a table, a list of tables as values -/
def RI (_ : Hp) (v : V) (x : Int) : Prop := v = .int x
def RR (H : Hp) (v : V) (m : Row) : Prop := ∃ r, v = .ref r ∧ IL H r m
def RT (H : Hp) (v : V) (M : List Row) : Prop := ∃ t rs, v = .ref t ∧ Tab H t rs M
def RL {α : Type} (R : Hp → V → α → Prop) (H : Hp) (v : V) (xs : List α) : Prop := ∃ a vs, v = .ref a ∧ H a = some (.lst vs) ∧ Al R H vs xs
theorem RI.mono : Mono RI := fun _ _ _ _ _ h => h
theorem RR.mono : Mono RR := fun _ _ _ _ s h => by
  obtain ⟨r, e, h⟩ := h
  exact ⟨r, e, s _ _ h⟩
theorem RT.mono : Mono RT := fun _ _ _ _ s h => by
  obtain ⟨r, rs, e, h⟩ := h
  exact ⟨r, rs, e, h.same s⟩
theorem RL.mono {α : Type} {R : Hp → V → α → Prop} (mo : Mono R) : Mono (RL R) := fun _ _ _ _ s h => by
  obtain ⟨r, rs, e, h, t⟩ := h
  exact ⟨r, rs, e, s _ _ h, t.same mo s⟩
theorem al_ints (H : Hp) : ∀ m : List Int, Al RI H (iv m) m
  | [] => .nil
  | _ :: m => .cons rfl (al_ints H m)
theorem Al.ints {H : Hp} : ∀ {vs : List V} {m : List Int}, Al RI H vs m → vs = iv m
  | _, _, .nil => rfl
  | _, _, .cons h t => by
    cases h
    rw [t.ints]
    rfl
/-- a table's rows from a list of rows -/
theorem Al.rows {H : Hp} : ∀ {vs : List V} {M : List Row}, Al RR H vs M → ∃ rs, vs = rf rs ∧ rs.length = M.length ∧ ∀ (i : Nat) r m, rs[i]? = some r → M[i]? = some m → IL H r m
  | _, _, .nil => ⟨[], rfl, rfl, fun i r m h => by simp at h⟩
  | _, _, .cons (v := v) h t => by
    obtain ⟨r, rfl, h⟩ := h
    obtain ⟨rs, rfl, l, k⟩ := t.rows
    refine ⟨r :: rs, rfl, congrArg (· + 1) l, fun i r' m h1 h2 => ?_⟩
    match i with
    | 0 =>
      simp at h1 h2
      rw [← h1, ← h2]
      exact h
    | i + 1 => exact k i r' m (by simpa using h1) (by simpa using h2)
theorem Al.tab {H : Hp} {t : Addr} {vs : List V} {M : List Row} (h : H t = some (.lst vs)) (a : Al RR H vs M) : ∃ rs, Tab H t rs M := by
  obtain ⟨rs, rfl, l, k⟩ := a.rows
  exact ⟨rs, h, l, k⟩
theorem Tab.al {H : Hp} {t : Addr} {rs : List Addr} {M : List Row} (T : Tab H t rs M) : Al RR H (rf rs) M := by
  have key : ∀ (rs : List Addr) (M : List Row), rs.length = M.length → (∀ (i : Nat) r m, rs[i]? = some r → M[i]? = some m → IL H r m) → Al RR H (rf rs) M := by
    intro rs
    induction rs with
    | nil =>
      intro M l _
      cases M with
      | nil => exact .nil
      | cons _ _ => simp at l
    | cons r rs ih =>
      intro M l k
      cases M with
      | nil => simp at l
      | cons m M => exact .cons ⟨r, rfl, k 0 r m rfl rfl⟩ (ih M (by simpa using l) fun i r' m' h1 h2 => k (i + 1) r' m' (by simpa using h1) (by simpa using h2))
  exact key rs M T.len T.row
/-- what is told as a new table: with its rows it is new -/
theorem Tab.nw {H H' : Hp} {t : Addr} {rs : List Addr} {M : List Row} (T : Tab H' t rs M) (h : H t = none) (h2 : ∀ r ∈ rs, H r = none) : Tab (My.nw H H') t rs M :=
  ⟨(nw_at h).trans T.at_, T.len, fun i r m hr hm => (show My.nw H H' r = _ from (nw_at (h2 r (List.mem_of_getElem? hr))).trans (T.row i r m hr hm))⟩
theorem Tab.un {H H' : Hp} {t : Addr} {rs : List Addr} {M : List Row} (T : Tab (My.nw H H') t rs M) : Tab H' t rs M ∧ H t = none ∧ ∀ r ∈ rs, H r = none :=
  ⟨T.same nw_same, (nw_inv T.at_).1, fun r hr => by
    obtain ⟨m, _, hm⟩ := IL.ref T hr
    exact (nw_inv hm).1⟩
/-! data of lists of tables -/
def dTabs (Ms : List (List Row)) : PyData := .list (Ms.map dTab)
theorem dTabs_depth2 : ∀ Ms : List (List Row), PyData.depthAll (Ms.map dTab) ≤ 2
  | [] => Nat.zero_le _
  | M :: Ms => by
    show max (dTab M).depth (PyData.depthAll (Ms.map dTab)) ≤ 2
    have h : (dTab M).depth ≤ 2 := by
      show PyData.depthAll (M.map dRow) + 1 ≤ 2
      have := dRows_depth M
      omega
    have := dTabs_depth2 Ms
    omega
theorem dTabs_lay : ∀ Ms : List (List Row), PyData.canLayAll0 (Ms.map dTab) = true
  | [] => rfl
  | M :: Ms => by
    show ((dTab M).canLay0 && PyData.canLayAll0 (Ms.map dTab)) = true
    rw [dTabs_lay Ms, show (dTab M).canLay0 = true from dRows_lay M]
    rfl
theorem dTabs_shaped (Ms : List (List Row)) : SeqAt.shaped (dTabs Ms) = true := by
  have h : (dTabs Ms).depth ≤ 64 := by
    show PyData.depthAll (Ms.map dTab) + 1 ≤ 64
    have := dTabs_depth2 Ms
    omega
  show ((dTabs Ms).canLay0 && decide ((dTabs Ms).depth ≤ 64)) = true
  rw [decide_eq_true h, show (dTabs Ms).canLay0 = true from dTabs_lay Ms]
  rfl
theorem dTabs_eq (Ms : List (List Row)) : PyData.eqv (dTabs Ms) (dTabs Ms) = true := SeqAt.eqv_refl _ (dTabs_lay Ms)
theorem al_dp {K : PySem.W.Frag} {H : Hp} : ∀ {vs : List V} {Ms : List (List Row)}, Al RT H vs Ms → DpAll K H vs (Ms.map dTab)
  | _, _, .nil => .nil
  | _, _, .cons h t => by
    obtain ⟨a, rs, rfl, h⟩ := h
    exact .cons h.dp (al_dp t)
end

section
variable {prog : Program} {w : World} {A : Around} {E : Value → Shared → Prop} {s : Shared}
theorem wpAny_alive {M : Model} {a : Addr} {Q : Option Obj → Shared → Prop} (h : Q (s.heap.get? a) s) : wpAny M A (loadIfAlive a) Q E s := fun Γ p hΓ => by
  unfold loadIfAlive
  rw [Sem.wp_loadIfAlive]
  exact h
abbrev IsZipG (h : Heap) (z TI TO : Addr) (f0 f1 : Value) : Prop :=
  h.get? z = some { cls := .type "zip", dict := none, data := .fields #[f0, f1, .bool false, .ref TI, .ref TO], slots := #[] }
abbrev IsTupG (h : Heap) (T : Addr) (vs : List Value) : Prop := h.get? T = some { cls := .type "tuple", data := .seq vs.toArray }
theorem wpAny_tupleFree {z TI TO : Addr} {f0 f1 : Value} {Q : Bool → Shared → Prop} (hz : IsZipG s.heap z TI TO f0 f1) (hf : f0 = .none ∨ ∃ a : Int, f0 = rawInt a)
    (h : ∀ b h' g1, IsZipG h' z TI TO f0 g1 → Heap.SameBut z s.heap h' → Q b { s with heap := h' }) : wpAny (model prog w) A (Builtin.SmallTypes.ownedTupleIsFree (.ref z)) Q E s := by
  unfold Builtin.SmallTypes.ownedTupleIsFree
  refine wpAny_bind (wpAny_field hz rfl (x := f0) rfl ?_)
  rcases hf with rfl | ⟨a, rfl⟩
  · exact wpAny_pure (h true s.heap f1 hz (Heap.SameBut.refl _ _))
  · show wpAny _ _ (loadIfAlive (a.toNat) >>= _) _ _ _
    refine wpAny_bind (wpAny_alive ?_)
    cases e : s.heap.get? a.toNat with
    | none =>
      simp only [Option.isNone_none, if_true]
      exact wpAny_pure (h true s.heap f1 hz (Heap.SameBut.refl _ _))
    | some o =>
      simp only [Option.isNone_some, Bool.false_eq_true, if_false]
      refine wpAny_bind (wpAny_field hz rfl (x := f1) rfl ?_)
      by_cases c : (f1 != Value.bool true) = true
      · rw [if_pos c]
        exact wpAny_bind (wpAny_setField_rec hz (by simp) fun h₁ hz₁ hs₁ => wpAny_pure (h false h₁ (.bool true) hz₁ hs₁))
      · rw [if_neg c]
        exact wpAny_pure (h false s.heap f1 hz (Heap.SameBut.refl _ _))
/-- the lists' iterators, those ahead of j one further -/
structure ZRun (h0 : Heap) (z TI TO : Addr) (is ls : List Addr) (k : Nat) (col : List Value) (j : Nat) (h : Heap) (two : Bool) : Prop where
  zip : ∃ f0 f1, IsZipG h z TI TO f0 f1
  to : two = true → ∃ vs : List Value, IsTupG h TO vs ∧ vs.length = is.length ∧ ∀ t, t < j → vs[t]? = col[t]?
  its : ∀ (t : Nat) it l, is[t]? = some it → ls[t]? = some l → h.IsListIter it l (if t < j then k + 1 else k)
  keep : ∀ c o, c ≠ z → c ∉ is → (two = true → c ≠ TO) → h0.get? c = some o → h.get? c = some o
  size : h.objs.size = h0.objs.size
theorem zipN_next_item {z TI TO : Addr} {is ls : List Addr} {k : Nat} {col : List Value} {f0 f1 : Value} {vs : List Value} {Q : Value → Shared → Prop} (nd : (z :: TI :: TO :: is).Nodup) (hl : ls.length = is.length) (hc : col.length = is.length) (hpos : is ≠ []) (hsz : is.length ≤ 1000)
    (hz : IsZipG s.heap z TI TO f0 f1) (hf : f0 = .none ∨ ∃ a : Int, f0 = rawInt a) (hTI : IsTupG s.heap TI (is.map Value.ref)) (hTO : IsTupG s.heap TO vs) (hvs : vs.length = is.length)
    (hi : ∀ (t : Nat) it l, is[t]? = some it → ls[t]? = some l → s.heap.IsListIter it l k)
    (hx : ∀ (t : Nat) l, ls[t]? = some l → l ∉ z :: TO :: is ∧ ∃ xs x, s.heap.IsList l xs ∧ xs[k]? = some x ∧ col[t]? = some x)
    (hQ : ∀ h' g0 g1 ws, IsZipG h' z TI TO g0 g1 → (g0 = .none ∨ ∃ a : Int, g0 = rawInt a) → IsTupG h' TO ws → ws.length = is.length → (∀ (t : Nat) it l, is[t]? = some it → ls[t]? = some l → h'.IsListIter it l (k + 1)) → IsTupG h' s.heap.objs.size col →
      (∀ c o, c ∉ z :: TO :: is → s.heap.get? c = some o → h'.get? c = some o) → Q (.ref s.heap.objs.size) { s with heap := h' }) :
    wpAny (model prog w) A (Builtin.«zip.__next__» ⟨[.ref z], []⟩) (fun fin s' => ∃ v, fin = .done (.ret v) ∧ Q v s') E s := by
  show wpAny _ _ (field (.ref z) 2 >>= _) _ _ _
  refine wpAny_bind (wpAny_field hz rfl (x := .bool false) rfl ?_)
  show wpAny _ _ (field (.ref z) 3 >>= _) _ _ _
  refine wpAny_bind (wpAny_field hz rfl (x := .ref TI) rfl ?_)
  refine wpAny_bind (wpAny_seqItems hTI rfl ?_)
  have hne : (List.map Value.ref is).toArray.isEmpty = false := by
    cases is with
    | nil => exact absurd rfl hpos
    | cons _ _ => rfl
  dsimp only
  rw [if_neg (by rw [hne]; exact Bool.false_ne_true)]
  have nz : z ∉ is := fun h => (List.nodup_cons.mp nd).1 (List.mem_cons_of_mem _ (List.mem_cons_of_mem _ h))
  have nd2 := (List.nodup_cons.mp nd).2
  have nTI : TI ∉ is := fun h => (List.nodup_cons.mp nd2).1 (List.mem_cons_of_mem _ h)
  have nd3 := (List.nodup_cons.mp nd2).2
  have nTO : TO ∉ is := (List.nodup_cons.mp nd3).1
  have ndi := (List.nodup_cons.mp nd3).2
  have zTO : TO ≠ z := fun h => (List.nodup_cons.mp nd).1 (by rw [h]; exact List.mem_cons_of_mem _ List.mem_cons_self)
  have zTI : TI ≠ z := fun h => (List.nodup_cons.mp nd).1 (by rw [h]; exact List.mem_cons_self)
  have TIO : TI ≠ TO := fun h => (List.nodup_cons.mp nd2).1 (by rw [h]; exact List.mem_cons_self)
  have ine : ∀ {t it}, is[t]? = some it → it ≠ z ∧ it ≠ TO := fun h => ⟨fun e => nz (e ▸ List.mem_of_getElem? h), fun e => nTO (e ▸ List.mem_of_getElem? h)⟩
  -- the turn of one iterator
  have lof : ∀ {t it}, is[t]? = some it → ∃ l, ls[t]? = some l := fun h => ⟨ls[_]'(by have := (List.getElem?_eq_some_iff.mp h).1; omega), List.getElem?_eq_getElem _⟩
  have step : ∀ {h0 : Heap} {two : Bool} {j : Nat} {h h1 : Heap} {it l : Addr}, ZRun h0 z TI TO is ls k col j h two → is[j]? = some it → ls[j]? = some l → h1.IsListIter it l (k + 1) → Heap.SameBut it h h1 →
      (∀ (t : Nat) it l, is[t]? = some it → ls[t]? = some l → h1.IsListIter it l (if t < j + 1 then k + 1 else k)) ∧ (∀ c o, c ≠ z → c ∉ is → (two = true → c ≠ TO) → h0.get? c = some o → h1.get? c = some o) ∧ h1.objs.size = h0.objs.size := by
    intro h0 two j h h1 it l R e1 e2 ei sb
    refine ⟨fun t it' l' h2 h3 => ?_, fun c o c1 c2 c3 e => sb.extBut _ _ (fun q => c2 (q ▸ List.mem_of_getElem? e1)) (R.keep c o c1 c2 c3 e), by rw [sb.1, R.size]⟩
    by_cases ht : t = j
    · subst ht
      rw [e1] at h2
      rw [e2] at h3
      cases h2
      cases h3
      rw [if_pos (Nat.lt_succ_self _)]
      exact ei
    · have z := R.its t it' l' h2 h3
      have ni : it' ≠ it := fun e => ht (by
        subst e
        exact nd_ix ndi h2 e1)
      have z2 := z.extBut sb.extBut ni
      by_cases h4 : t < j
      · rw [if_pos h4] at z2
        rw [if_pos (by omega)]
        exact z2
      · rw [if_neg h4] at z2
        rw [if_neg (by omega)]
        exact z2
  refine wpAny_bind (wpAny_tupleFree hz hf fun b h₁ g1 hz₁ hs₁ => ?_)
  have hTI₁ : IsTupG h₁ TI (is.map Value.ref) := hs₁.extBut _ _ zTI hTI
  have hTO₁ : IsTupG h₁ TO vs := hs₁.extBut _ _ zTO hTO
  have hi₁ : ∀ (t : Nat) it l, is[t]? = some it → ls[t]? = some l → h₁.IsListIter it l k := fun t it l e1 e2 => (hi t it l e1 e2).extBut hs₁.extBut (ine e1).1
  cases b with
  | true =>
    rw [if_pos rfl]
    refine wpAny_bind (wpAny_rule ?_)
    refine wpAny_bind (wpAny_field hz₁ rfl (x := .ref TO) rfl ?_)
    dsimp only
    refine wpAny_bind (wpAny_setField_rec hz₁ (by simp) fun h₂ hz₂ hs₂ => ?_)
    replace hz₂ : IsZipG h₂ z TI TO .ellipsis g1 := hz₂
    have R0 : ZRun s.heap z TI TO is ls k col 0 h₂ true := ⟨⟨_, _, hz₂⟩, fun _ => ⟨vs, hs₂.extBut _ _ zTO hTO₁, hvs, fun t ht => absurd ht (Nat.not_lt_zero _)⟩,
      fun t it l e1 e2 => by rw [if_neg (Nat.not_lt_zero _)]; exact (hi₁ t it l e1 e2).extBut hs₂.extBut (ine e1).1, fun c o c1 _ _ e => hs₂.extBut _ _ c1 (hs₁.extBut _ _ c1 e), by rw [hs₂.1, hs₁.1]⟩
    refine wpAny_bind ?_
    refine wpAny_forIn_list _ (fun rest b s' => b.1 = none ∧ ∃ j h', j ≤ is.length ∧ rest = ((is.map Value.ref).zipIdx).drop j ∧ s' = { s with heap := h' } ∧ ZRun s.heap z TI TO is ls k col j h' true ∧ ∃ f, IsZipG h' z TI TO .ellipsis f) _ ?_ ?_ _ _ ⟨rfl, 0, h₂, Nat.zero_le _, rfl, rfl, R0, _, hz₂⟩
    · rintro ⟨v, j'⟩ rest b s' ⟨hb, j, h', hj, er, rfl, R, f, hzr⟩
      have hjl : j < is.length := by
        have := congrArg List.length er
        rw [List.length_cons, List.length_drop, List.length_zipIdx, List.length_map] at this
        omega
      rw [List.drop_eq_getElem_cons (by rw [List.length_zipIdx, List.length_map]; exact hjl)] at er
      obtain ⟨e1, e2⟩ := List.cons.inj er
      rw [List.getElem_zipIdx, List.getElem_map] at e1
      obtain ⟨rfl, rfl⟩ := Prod.mk.inj e1
      have hit : is[j]? = some is[j] := List.getElem?_eq_getElem hjl
      obtain ⟨l, hlj⟩ := lof hit
      obtain ⟨nl, xs, x, hxl, hxk, hcol⟩ := hx j l hlj
      have hl' : h'.IsList l xs := hxl.at fun o e => R.keep l o (fun q => nl (q ▸ List.mem_cons_self)) (fun q => nl (List.mem_cons_of_mem _ (List.mem_cons_of_mem _ q))) (fun _ q => nl (by rw [q]; exact List.mem_cons_of_mem _ List.mem_cons_self)) e
      have hit' : h'.IsListIter is[j] l k := by
        have := R.its j _ l hit hlj
        rw [if_neg (Nat.lt_irrefl _)] at this
        exact this
      refine wpAny_bind (wpAny_onRaise ?_)
      show wpAny _ _ (Builtin.SmallTypes.nextOf (.ref is[j]) >>= _) _ _ _
      refine wpAny_bind (wpAny_nextOf_list_item (s := { s with heap := h' }) hit' hl' hxk fun h3 hi3 hs3 => wpAny_pure ?_)
      obtain ⟨us, hTO3, lus, hus⟩ := R.to rfl
      have hTO4 : IsTupG h3 TO us := hs3.extBut _ _ (ine hit).2.symm hTO3
      have hz3 : IsZipG h3 z TI TO .ellipsis f := hs3.extBut _ _ (ine hit).1.symm hzr
      obtain ⟨w1, w2, w3⟩ := step R hit hlj hi3 hs3
      dsimp only
      refine wpAny_bind (wpAny_seqItems hTO4 rfl ?_)
      dsimp only
      refine wpAny_bind (wpAny_updateSeq (s := { s with heap := h3 }) hTO4 rfl ?_ (by show us.toArray.size ≤ sizeLine; rw [List.size_toArray, lus]; exact Nat.le_trans hsz (by rw [sizeLine_eq]; decide)) (by show (us.toArray.setIfInBounds _ _).size ≤ sizeLine + 1; rw [Array.size_setIfInBounds, List.size_toArray, lus]; exact Nat.le_trans hsz (by rw [sizeLine_eq]; decide)))
      refine wpAny_bind (wpAny_letGo (wpAny_pure ?_))
      have hs5 : Heap.SameBut TO h3 (h3.update TO (Obj.mapSeq fun x_2 => x_2.setIfInBounds (0 + j) x)) := Heap.SameBut.update ..
      have hTO5 : IsTupG (h3.update TO (Obj.mapSeq fun x_2 => x_2.setIfInBounds (0 + j) x)) TO (us.set j x) := by
        show Heap.get? _ _ = _
        rw [Heap.get?_update_self _ hTO4 rfl]
        simp [Obj.mapSeq]
      refine ⟨rfl, j + 1, _, by omega, by rw [← e2], rfl, ⟨⟨_, _, hs5.extBut _ _ zTO.symm hz3⟩, fun _ => ⟨us.set j x, hTO5, by rw [List.length_set, lus], fun t ht => ?_⟩, fun t it l e1 e2 => (w1 t it l e1 e2).extBut hs5.extBut (ine e1).2, fun c o c1 c2 c3 e => hs5.extBut _ _ (c3 rfl) (w2 c o c1 c2 c3 e), by rw [hs5.1, w3]⟩, f, hs5.extBut _ _ zTO.symm hz3⟩
      by_cases ht2 : t = j
      · subst ht2
        rw [List.getElem?_set_self (by omega), hcol]
      · rw [List.getElem?_set_ne (fun e => ht2 e.symm)]
        exact hus t (by omega)
    · rintro b s' ⟨hb, j, h', hj, er, rfl, R, f, hzr⟩
      have ej : j = is.length := by
        have := congrArg List.length er
        rw [List.length_nil, List.length_drop, List.length_zipIdx, List.length_map] at this
        omega
      subst ej
      obtain ⟨us, hTO3, lus, hus⟩ := R.to rfl
      have eus : us = col := List.ext_getElem? fun t => by
        by_cases ht : t < is.length
        · exact hus t ht
        · rw [List.getElem?_eq_none (by omega), List.getElem?_eq_none (by omega)]
      subst eus
      obtain ⟨b1, b2⟩ := b
      dsimp only at hb
      subst hb
      dsimp only
      refine wpAny_bind (wpAny_seqItems (s := { s with heap := h' }) hTO3 rfl ?_)
      dsimp only
      refine wpAny_bind (wpAny_newTuple ?_ (by rw [lus]; exact Nat.le_trans hsz (by rw [sizeLine_eq]; decide)))
      have hzlt : z < h'.objs.size := Heap.lt_size hzr
      show wpAny _ _ (Builtin.SmallTypes.ownedTupleHandOut (.ref z) (.ref h'.objs.size) >>= _) _ _ _
      refine wpAny_bind ?_
      unfold Builtin.SmallTypes.ownedTupleHandOut
      have hz6 : IsZipG (h'.push { cls := .type "tuple", data := .seq us.toArray }) z TI TO .ellipsis f := Heap.get?_push_of_some _ hzr
      refine wpAny_bind (wpAny_setField_rec hz6 (by simp) fun h₇ hz₇ hs₇ => ?_)
      replace hz₇ : IsZipG h₇ z TI TO (rawInt h'.objs.size) f := hz₇
      refine wpAny_setField_rec hz₇ (by simp) fun h₈ hz₈ hs₈ => ?_
      replace hz₈ : IsZipG h₈ z TI TO (rawInt h'.objs.size) (.bool false) := hz₈
      have up : ∀ c o, c ≠ z → h'.get? c = some o → h₈.get? c = some o := fun c o c1 e => hs₈.extBut _ _ c1 (hs₇.extBut _ _ c1 (Heap.get?_push_of_some _ e))
      have hT₈ : IsTupG h₈ h'.objs.size us := hs₈.extBut _ _ (Nat.ne_of_gt hzlt) (hs₇.extBut _ _ (Nat.ne_of_gt hzlt) (Heap.get?_push_size _ rfl))
      refine wpAny_pure ⟨_, rfl, ?_⟩
      have esz := R.size
      rw [esz] at hT₈ hz₈ ⊢
      refine hQ h₈ _ _ us hz₈ (.inr ⟨_, rfl⟩) (up _ _ zTO hTO3) lus (fun t it l e1 e2 => ?_) hT₈ fun c o cn e => up _ _ (fun q => cn (q ▸ List.mem_cons_self)) (R.keep c o (fun q => cn (q ▸ List.mem_cons_self)) (fun q => cn (List.mem_cons_of_mem _ (List.mem_cons_of_mem _ q))) (fun _ q => cn (by rw [q]; exact List.mem_cons_of_mem _ List.mem_cons_self)) e)
      have q := R.its t it l e1 e2
      rw [if_pos ((List.getElem?_eq_some_iff.mp e1).1)] at q
      exact q.at fun o e => up _ o (ine e1).1 e
  | false =>
    simp only [Bool.false_eq_true, if_false]
    have R0 : ZRun s.heap z TI TO is ls k col 0 h₁ false := ⟨⟨_, _, hz₁⟩, fun q => Bool.noConfusion q,
      fun t it l e1 e2 => by rw [if_neg (Nat.not_lt_zero _)]; exact hi₁ t it l e1 e2, fun c o c1 _ _ e => hs₁.extBut _ _ c1 e, by rw [hs₁.1]⟩
    refine wpAny_bind ?_
    rw [← Array.forIn_toList]
    refine wpAny_forIn_list _ (fun rest b s' => b.1 = none ∧ ∃ j h', j ≤ is.length ∧ rest = (is.map Value.ref).drop j ∧ b.2.toList = col.take j ∧ s' = { s with heap := h' } ∧ ZRun s.heap z TI TO is ls k col j h' false ∧ IsZipG h' z TI TO f0 g1 ∧ IsTupG h' TO vs) _ ?_ ?_ _ _ ⟨rfl, 0, h₁, Nat.zero_le _, rfl, rfl, rfl, R0, hz₁, hTO₁⟩
    · rintro v rest b s' ⟨hb, j, h', hj, er, eb, rfl, R, hzr, hto⟩
      have hjl : j < is.length := by
        have := congrArg List.length er
        rw [List.length_cons, List.length_drop, List.length_map] at this
        omega
      rw [List.drop_eq_getElem_cons (by rw [List.length_map]; exact hjl)] at er
      obtain ⟨e1, e2⟩ := List.cons.inj er
      rw [List.getElem_map] at e1
      subst e1
      have hit : is[j]? = some is[j] := List.getElem?_eq_getElem hjl
      obtain ⟨l, hlj⟩ := lof hit
      obtain ⟨nl, xs, x, hxl, hxk, hcol⟩ := hx j l hlj
      have hl' : h'.IsList l xs := hxl.at fun o e => R.keep l o (fun q => nl (q ▸ List.mem_cons_self)) (fun q => nl (List.mem_cons_of_mem _ (List.mem_cons_of_mem _ q))) (fun q => Bool.noConfusion q) e
      have hit' : h'.IsListIter is[j] l k := by
        have := R.its j _ l hit hlj
        rw [if_neg (Nat.lt_irrefl _)] at this
        exact this
      refine wpAny_bind (wpAny_holding ?_)
      show wpAny _ _ (Builtin.SmallTypes.nextOf (.ref is[j]) >>= _) _ _ _
      refine wpAny_bind (wpAny_nextOf_list_item (s := { s with heap := h' }) hit' hl' hxk fun h3 hi3 hs3 => wpAny_pure ?_)
      obtain ⟨w1, w2, w3⟩ := step R hit hlj hi3 hs3
      dsimp only
      refine wpAny_pure ⟨rfl, j + 1, h3, by omega, e2, ?_, rfl, ⟨⟨_, _, hs3.extBut _ _ (ine hit).1.symm hzr⟩, fun q => Bool.noConfusion q, w1, w2, w3⟩, hs3.extBut _ _ (ine hit).1.symm hzr, hs3.extBut _ _ (ine hit).2.symm hto⟩
      rw [Array.toList_push, eb, List.take_add_one, hcol]
      rfl
    · rintro b s' ⟨hb, j, h', hj, er, eb, rfl, R, hzr, hto⟩
      have ej : j = is.length := by
        have := congrArg List.length er
        rw [List.length_nil, List.length_drop, List.length_map] at this
        omega
      subst ej
      obtain ⟨b1, b2⟩ := b
      dsimp only at hb eb
      subst hb
      dsimp only
      rw [eb, ← hc, List.take_length]
      refine wpAny_bind (wpAny_newTuple ?_ (by rw [hc]; exact Nat.le_trans hsz (by rw [sizeLine_eq]; decide)))
      refine wpAny_pure ⟨_, rfl, ?_⟩
      have esz := R.size
      have hp : IsTupG (h'.push { cls := .type "tuple", data := .seq col.toArray }) h'.objs.size col := Heap.get?_push_size _ rfl
      rw [esz] at hp
      show Q (.ref h'.objs.size) _
      rw [esz]
      refine hQ _ _ _ vs (Heap.get?_push_of_some _ hzr) hf (Heap.get?_push_of_some _ hto) hvs (fun t it l e1 e2 => ?_) hp fun c o cn e => Heap.get?_push_of_some _ (R.keep c o (fun q => cn (q ▸ List.mem_cons_self)) (fun q => cn (List.mem_cons_of_mem _ (List.mem_cons_of_mem _ q))) (fun q => Bool.noConfusion q) e)
      have q := R.its t it l e1 e2
      rw [if_pos ((List.getElem?_eq_some_iff.mp e1).1)] at q
      exact q.at fun o e => Heap.get?_push_of_some _ e
end
theorem typeCall_zipN (args : List Value) : checkTypeCall "zip" ⟨args, []⟩ = pure () := by kernel_rfl
theorem newCall_zipN (a : Value) (args : List Value) : checkBuiltinCall "zip.__new__" ⟨.type "zip" :: a :: args, []⟩ = pure () := by kernel_rfl
theorem args_object_initN (obj : Value) (args : List Value) : PySem.argsOk "object.__init__" ⟨obj :: args, []⟩ := by
  unfold PySem.argsOk; rw [PySem.signature?_of (id := "object.__init__") (n := ['_', '_', 't', 'i', 'n', 'i', '_', '_']) (o := ['t', 'c', 'e', 'j', 'b', 'o']) (by kernel_rfl) PySem.F.owner_object]; kernel_rfl
section
variable {prog : Program} {w : World} {A : Around} {E : Value → Shared → Prop} {s : Shared}
theorem zipN_next_end {z TI TO i0 l0 : Addr} {is : List Addr} {k : Nat} {f0 f1 : Value} {xs : Array Value} {Q : Fin → Shared → Prop} (hh : A.handled = none) (ni : i0 ≠ z) (nl : l0 ≠ z) (zTI : TI ≠ z)
    (hz : IsZipG s.heap z TI TO f0 f1) (hf : f0 = .none ∨ ∃ a : Int, f0 = rawInt a) (hTI : IsTupG s.heap TI ((i0 :: is).map Value.ref))
    (hi : s.heap.IsListIter i0 l0 k) (hl : s.heap.IsList l0 xs) (hx : xs[k]? = none)
    (hE : ∀ h' e, (∀ c o, c ≠ z → c ≠ i0 → s.heap.get? c = some o → h'.get? c = some o) → (∃ o, h'.get? e = some o ∧ o.cls = .type "StopIteration") → E (.ref e) { s with heap := h' }) :
    wpAny (model prog w) A (Builtin.«zip.__next__» ⟨[.ref z], []⟩) Q E s := by
  show wpAny _ _ (field (.ref z) 2 >>= _) _ _ _
  refine wpAny_bind (wpAny_field hz rfl (x := .bool false) rfl ?_)
  show wpAny _ _ (field (.ref z) 3 >>= _) _ _ _
  refine wpAny_bind (wpAny_field hz rfl (x := .ref TI) rfl ?_)
  refine wpAny_bind (wpAny_seqItems hTI rfl ?_)
  dsimp only
  rw [if_neg (show ¬ (((i0 :: is).map Value.ref).toArray.isEmpty = true) from Bool.false_ne_true)]
  refine wpAny_bind (wpAny_tupleFree hz hf fun b h₁ g1 hz₁ hs₁ => ?_)
  have hi₁ := hi.extBut hs₁.extBut ni
  have hl₁ := hl.extBut hs₁.extBut nl
  cases b with
  | true =>
    rw [if_pos rfl]
    refine wpAny_bind (wpAny_rule ?_)
    refine wpAny_bind (wpAny_field hz₁ rfl (x := .ref TO) rfl ?_)
    dsimp only
    refine wpAny_bind (wpAny_setField_rec hz₁ (by simp) fun h₂ hz₂ hs₂ => ?_)
    replace hz₂ : IsZipG h₂ z TI TO .ellipsis g1 := hz₂
    refine wpAny_bind ?_
    simp only [List.map_cons, List.zipIdx_cons, List.forIn_cons]
    refine wpAny_bind (wpAny_bind (wpAny_onRaise ?_))
    show wpAny _ _ (Builtin.SmallTypes.nextOf (.ref i0) >>= _) _ _ _
    refine wpAny_bind (wpAny_nextOf_list_end (s := { s with heap := h₂ }) hh (hi₁.extBut hs₂.extBut ni) (hl₁.extBut hs₂.extBut nl) hx fun h₃ e hs₃ he => ?_)
    obtain ⟨oe, hoe, hce⟩ := he
    have hz₃ : IsZipG h₃ z TI TO .ellipsis g1 := hs₃ _ _ ni.symm hz₂
    have hez : e ≠ z := fun x => by subst x; rw [hz₃] at hoe; cases hoe; simp at hce
    exact wpAny_setField_rec hz₃ (by simp) fun h₄ _ hs₄ => hE h₄ e (fun c o c1 c2 x => hs₄.extBut _ _ c1 (hs₃ _ _ c2 (hs₂.extBut _ _ c1 (hs₁.extBut _ _ c1 x)))) ⟨oe, hs₄.extBut _ _ hez hoe, hce⟩
  | false =>
    simp only [Bool.false_eq_true, if_false]
    refine wpAny_bind ?_
    rw [← Array.forIn_toList]
    simp only [List.map_cons, List.forIn_cons]
    refine wpAny_bind (wpAny_bind (wpAny_holding ?_))
    show wpAny _ _ (Builtin.SmallTypes.nextOf (.ref i0) >>= _) _ _ _
    refine wpAny_bind (wpAny_nextOf_list_end (s := { s with heap := h₁ }) hh hi₁ hl₁ hx fun h₃ e hs₃ he => ?_)
    exact hE h₃ e (fun c o c1 c2 x => hs₃ _ _ c2 (hs₁.extBut _ _ c1 x)) he
theorem pyNext_zipN_item {z TI TO : Addr} {is ls : List Addr} {k : Nat} {col : List Value} {f0 f1 : Value} {vs : List Value} {Q : Option Value → Shared → Prop} (nd : (z :: TI :: TO :: is).Nodup) (hl : ls.length = is.length) (hc : col.length = is.length) (hpos : is ≠ []) (hsz : is.length ≤ 1000)
    (hz : IsZipG s.heap z TI TO f0 f1) (hf : f0 = .none ∨ ∃ a : Int, f0 = rawInt a) (hTI : IsTupG s.heap TI (is.map Value.ref)) (hTO : IsTupG s.heap TO vs) (hvs : vs.length = is.length)
    (hi : ∀ (t : Nat) it l, is[t]? = some it → ls[t]? = some l → s.heap.IsListIter it l k)
    (hx : ∀ (t : Nat) l, ls[t]? = some l → l ∉ z :: TO :: is ∧ ∃ xs x, s.heap.IsList l xs ∧ xs[k]? = some x ∧ col[t]? = some x)
    (hQ : ∀ h' g0 g1 ws, IsZipG h' z TI TO g0 g1 → (g0 = .none ∨ ∃ a : Int, g0 = rawInt a) → IsTupG h' TO ws → ws.length = is.length → (∀ (t : Nat) it l, is[t]? = some it → ls[t]? = some l → h'.IsListIter it l (k + 1)) → IsTupG h' s.heap.objs.size col →
      (∀ c o, c ∉ z :: TO :: is → s.heap.get? c = some o → h'.get? c = some o) → Q (some (.ref s.heap.objs.size)) { s with heap := h' }) :
    wpAny (model prog w) A (pyNext (.ref z)) Q E s := by
  have hT : s.TypeIs (.ref z) "zip" := ⟨_, hz, rfl⟩
  unfold pyNext
  exact wpAny_bind (wpAny_attempt (wpAny_callSpecial?_slot (name := Str.ofString "__next__") hT F.slot_zip_next
    (wpAny_call_entry F.slot_zip_next hT F.entry_zip_next
      (zipN_next_item nd hl hc hpos hsz hz hf hTI hTO hvs hi hx fun h' g0 g1 ws a1 a2 a3 a4 a5 a6 a7 => wpAny_pure (hQ h' g0 g1 ws a1 a2 a3 a4 a5 a6 a7)) (F.args_zip_next_1 _))))
theorem pyNext_zipN_end {z TI TO i0 l0 : Addr} {is : List Addr} {k : Nat} {f0 f1 : Value} {xs : Array Value} {Q : Option Value → Shared → Prop} (hh : A.handled = none) (ni : i0 ≠ z) (nl : l0 ≠ z) (zTI : TI ≠ z)
    (hz : IsZipG s.heap z TI TO f0 f1) (hf : f0 = .none ∨ ∃ a : Int, f0 = rawInt a) (hTI : IsTupG s.heap TI ((i0 :: is).map Value.ref))
    (hi : s.heap.IsListIter i0 l0 k) (hl : s.heap.IsList l0 xs) (hx : xs[k]? = none)
    (hQ : ∀ h', (∀ c o, c ≠ z → c ≠ i0 → s.heap.get? c = some o → h'.get? c = some o) → Q none { s with heap := h' }) : wpAny (model prog w) A (pyNext (.ref z)) Q E s := by
  have hT : s.TypeIs (.ref z) "zip" := ⟨_, hz, rfl⟩
  unfold pyNext
  refine wpAny_bind (wpAny_attempt (wpAny_callSpecial?_slot (name := Str.ofString "__next__") hT F.slot_zip_next
    (wpAny_call_entry F.slot_zip_next hT F.entry_zip_next (zipN_next_end hh ni nl zTI hz hf hTI hi hl hx fun h' e hk he => ?_) (F.args_zip_next_1 _))))
  obtain ⟨o, ho, hc⟩ := he
  refine wpAny_bind (wpAny_isInstance (T := "StopIteration") (b := true) ⟨o, ho, hc⟩ isSubtype_stop ?_)
  exact wpAny_pure (hQ _ hk)
theorem pyIter_zipN {z TI TO : Addr} {f0 f1 : Value} {Q : Value → Shared → Prop} (hz : IsZipG s.heap z TI TO f0 f1) (h : Q (.ref z) s) : wpAny (model prog w) A (pyIter (.ref z)) Q E s := by
  have hT : s.TypeIs (.ref z) "zip" := ⟨_, hz, rfl⟩
  refine wpAny_pyIter_slot hT F.slot_zip_iter (wpAny_call_entry F.slot_zip_iter hT F.entry_zip_iter ?_ (F.args_zip_iter_1 _))
  show wpAny _ _ (ret (.ref z)) _ _ s
  exact wpAny_pure ⟨_, rfl, "zip", _, hT, F.slot_zip_next.lookup, h⟩
/-- zip(l, ..): what stands then -/
theorem meets_zipN (ls : List Addr) (hsz : ls.length ≤ 1000) :
    Meets (Builtin.«zip.__new__» ⟨.type "zip" :: ls.map Value.ref, []⟩) (fun _ R s => (∀ l ∈ ls, ∃ xs, s.heap.IsList l xs) ∧
      ∀ h' is, is.length = ls.length → is = (List.range ls.length).map (fun i => s.heap.objs.size + i) → (∀ (t : Nat) it l, is[t]? = some it → ls[t]? = some l → h'.IsListIter it l 0) → IsTupG h' (s.heap.objs.size + ls.length) (is.map Value.ref) → IsTupG h' (s.heap.objs.size + ls.length + 1) (List.replicate ls.length .none) →
        IsZipG h' (s.heap.objs.size + ls.length + 2) (s.heap.objs.size + ls.length) (s.heap.objs.size + ls.length + 1) .none (.bool false) → (∀ c o, s.heap.get? c = some o → h'.get? c = some o) → R (.ok (.ret (.ref (s.heap.objs.size + ls.length + 2)))) { s with heap := h' }) :=
  .of_wp fun prog w A R s h => by
    obtain ⟨hl, h⟩ := h
    have hsub := sub_zip
    unfold Builtin.«zip.__new__»
    refine wpAny_bind ?_
    unfold Builtin.SmallTypes.newClass
    dsimp only
    have eT : isType (.type "zip") = pure true := rfl
    rw [eT]
    refine wpAny_bind (wpAny_pure ?_)
    simp only [Bool.not_true, Bool.false_eq_true, if_false]
    rw [hsub]
    refine wpAny_bind (wpAny_pure ?_)
    simp only [Bool.not_true, Bool.false_eq_true, if_false]
    refine wpAny_pure ?_
    dsimp only
    rw [if_neg (by decide)]
    refine wpAny_bind ?_
    unfold Builtin.SmallTypes.iterAll
    refine wpAny_bind ?_
    refine wpAny_forIn_list _ (fun rest b s' => ∃ j h', j ≤ ls.length ∧ rest = (ls.map Value.ref).drop j ∧ b.toList = ((List.range j).map fun i => Value.ref (s.heap.objs.size + i)) ∧ s' = { s with heap := h' } ∧ h'.objs.size = s.heap.objs.size + j ∧ (∀ (t : Nat) l, t < j → ls[t]? = some l → h'.IsListIter (s.heap.objs.size + t) l 0) ∧ ∀ c o, s.heap.get? c = some o → h'.get? c = some o) _ ?_ ?_ _ _ ⟨0, s.heap, Nat.zero_le _, rfl, rfl, rfl, rfl, fun t l h => absurd h (Nat.not_lt_zero _), fun _ _ e => e⟩
    · rintro v rest b s' ⟨j, h', hj, er, eb, rfl, ez, hit, hk⟩
      have hjl : j < ls.length := by
        have := congrArg List.length er
        rw [List.length_cons, List.length_drop, List.length_map] at this
        omega
      rw [List.drop_eq_getElem_cons (by rw [List.length_map]; exact hjl)] at er
      obtain ⟨e1, e2⟩ := List.cons.inj er
      rw [List.getElem_map] at e1
      subst e1
      obtain ⟨xs, hxs⟩ := hl _ (List.getElem_mem hjl)
      refine wpAny_bind (wpAny_holding (wpAny_pyIter_list (s := { s with heap := h' }) (hxs.at fun o e => hk _ o e) (wpAny_pure ?_)))
      refine ⟨j + 1, _, by omega, e2, ?_, rfl, ?_, fun t l ht hl => ?_, fun c o e => Heap.get?_push_of_some _ (hk c o e)⟩
      · rw [Array.toList_push, eb, List.range_succ, List.map_append]
        show _ ++ [Value.ref h'.objs.size] = _
        rw [ez]
        rfl
      · rw [Heap.size_push, ez]
        rfl
      · by_cases h2 : t = j
        · subst h2
          have e3 : ls[t] = l := Option.some.inj ((List.getElem?_eq_getElem hjl).symm.trans hl)
          subst e3
          rw [← ez]
          exact ⟨_, Heap.get?_push_size _ rfl, rfl, rfl⟩
        · exact (hit t l (by omega) hl).at fun o e => Heap.get?_push_of_some _ e
    · rintro b s' ⟨j, h', hj, er, eb, rfl, ez, hit, hk⟩
      have ej : j = ls.length := by
        have := congrArg List.length er
        rw [List.length_nil, List.length_drop, List.length_map] at this
        omega
      subst ej
      refine wpAny_pure ?_
      rw [eb]
      have big : ls.length ≤ sizeLine := Nat.le_trans hsz (by rw [sizeLine_eq]; decide)
      refine wpAny_bind (wpAny_newTuple ?_ (by rw [List.length_map, List.length_range]; exact big))
      refine wpAny_bind (wpAny_newTuple ?_ (by rw [List.length_map, List.length_map, List.length_range]; exact big))
      unfold Builtin.SmallTypes.newRecord
      dsimp only
      refine wpAny_bind (wpAny_newObj_type ?_ (by simp [sizeOk, Builtin.SmallTypes.ownedTupleFields]; rw [sizeLine_eq]; decide))
      have er2 : (List.map (fun _ => Value.none) ((List.range ls.length).map fun i => Value.ref (s.heap.objs.size + i))) = List.replicate ls.length Value.none := by
        rw [List.map_const', List.length_map, List.length_range]
      rw [er2]
      have em : ((List.range ls.length).map fun i => Value.ref (s.heap.objs.size + i)) = ((List.range ls.length).map fun i => s.heap.objs.size + i).map Value.ref := by
        rw [List.map_map]
        rfl
      rw [em]
      refine wpAny_pure ⟨_, rfl, ?_⟩
      have z1 := ez
      obtain ⟨h1, e1⟩ : ∃ h1, h1 = h'.push { cls := .type "tuple", data := .seq (((List.range ls.length).map fun i => s.heap.objs.size + i).map Value.ref).toArray } := ⟨_, rfl⟩
      have z2 : h1.objs.size = s.heap.objs.size + ls.length + 1 := by rw [e1, Heap.size_push, ez]
      have g1 : h1.get? h'.objs.size = some { cls := .type "tuple", data := .seq (((List.range ls.length).map fun i => s.heap.objs.size + i).map Value.ref).toArray } := by rw [e1]; exact Heap.get?_push_size _ rfl
      have k1 : ∀ c o, h'.get? c = some o → h1.get? c = some o := fun c o e => by rw [e1]; exact Heap.get?_push_of_some _ e
      obtain ⟨h2, e2⟩ : ∃ h2, h2 = h1.push { cls := .type "tuple", data := .seq (List.replicate ls.length Value.none).toArray } := ⟨_, rfl⟩
      have z3 : h2.objs.size = s.heap.objs.size + ls.length + 2 := by rw [e2, Heap.size_push, z2]
      have g2 : h2.get? h1.objs.size = some { cls := .type "tuple", data := .seq (List.replicate ls.length Value.none).toArray } := by rw [e2]; exact Heap.get?_push_size _ rfl
      have k2 : ∀ c o, h1.get? c = some o → h2.get? c = some o := fun c o e => by rw [e2]; exact Heap.get?_push_of_some _ e
      have fin := h (h2.push { cls := .type "zip", data := .fields #[.none, .bool false, .bool false, .ref h'.objs.size, .ref h1.objs.size] }) _ (by rw [List.length_map, List.length_range]) rfl (fun t it l a1 a2 => ?_) ?_ ?_ ?_ (fun c o e => Heap.get?_push_of_some _ (k2 _ _ (k1 _ _ (hk c o e))))
      · have ee : s.heap.objs.size + ls.length + 2 = h2.objs.size := z3.symm
        rw [ee, e2, e1] at fin
        subst e1
        subst e2
        exact fin
      · rw [List.getElem?_map] at a1
        have tl := (List.getElem?_eq_some_iff.mp a2).1
        rw [List.getElem?_range tl] at a1
        cases a1
        exact (hit t l tl a2).at fun o e => Heap.get?_push_of_some _ (k2 _ _ (k1 _ _ e))
      · rw [ez] at g1
        exact Heap.get?_push_of_some _ (k2 _ _ g1)
      · rw [z2] at g2
        exact Heap.get?_push_of_some _ g2
      · have q : (h2.push { cls := .type "zip", data := .fields #[.none, .bool false, .bool false, .ref h'.objs.size, .ref h1.objs.size] }).get? h2.objs.size = some _ := Heap.get?_push_size _ rfl
        rw [z3, ez, z2] at q
        rw [ez, z2]
        exact q
end
section
variable {prog : Program} {w : World} {A : Around} {E : Value → Shared → Prop} {s : Shared}
theorem call_zipN {ls : List Addr} {Q : Value → Shared → Prop} (hpos : ls ≠ []) (hsz : ls.length ≤ 1000) (hl : ∀ l ∈ ls, ∃ xs, s.heap.IsList l xs)
    (h : ∀ h' is, is.length = ls.length → is = (List.range ls.length).map (fun i => s.heap.objs.size + i) → (∀ (t : Nat) it l, is[t]? = some it → ls[t]? = some l → h'.IsListIter it l 0) → IsTupG h' (s.heap.objs.size + ls.length) (is.map Value.ref) → IsTupG h' (s.heap.objs.size + ls.length + 1) (List.replicate ls.length .none) →
        IsZipG h' (s.heap.objs.size + ls.length + 2) (s.heap.objs.size + ls.length) (s.heap.objs.size + ls.length + 1) .none (.bool false) → (∀ c o, s.heap.get? c = some o → h'.get? c = some o) → Q (.ref (s.heap.objs.size + ls.length + 2)) { s with heap := h' }) :
    wpAny (model prog w) A (call (.type "zip") (ls.map Value.ref)) Q E s := by
  refine callType_new F.called_zip (by decide) (typeCall_zipN _) ?_ (fun obj => args_object_initN obj _) F.entry_zip_new (meets_zipN ls hsz) ⟨hl, fun h' is a1 a2 a3 a4 a5 a6 a7 => ?_⟩
  · cases ls with
    | nil => exact absurd rfl hpos
    | cons l ls => exact newCall_zipN _ _
  · exact ⟨⟨_, a6, rfl⟩, h h' is a1 a2 a3 a4 a5 a6 a7⟩
end
theorem callWith_ST {M : Model} {A : Around} {E : Value → Shared → Prop} {s : Shared} {env : Env} {pos p : Pos} {T : String} {Q : Value → Shared → Prop} {e : Expr}
    (h : wpAny M A (eval e env) (fun v s₁ => PySem.W.StarOf M A E v (fun vs s₂ => True ∧ wpAny M A (call (.type T) ([] ++ vs)) Q E s₂) s₁) E s)
    (he : starEach [.Starred e p] env = [(true, eval e env)] := by rfl) :
    wpAny M A (callWith pos (.type T) [] (backTo pos (starEach [.Starred e p] env)) []) Q E s := by
  rw [he]
  exact PySem.W.ks_call (P := fun _ => True) rfl (fun h _ => ⟨.machine, .inr (.inl rfl), fun A Q E s _ q => wpAny_pure q⟩) (PySem.W.ks_lone h)
/-- lists of one length at these places -/
def AllL (K : PySem.W.Frag) (H : Hp) (ls : List Addr) (xss : List (List V)) (n : Nat) : Prop := ls.length = xss.length ∧ ∀ (t : Nat) l xs, ls[t]? = some l → xss[t]? = some xs → SqL K H l xs ∧ xs.length = n
/-- the columns, as new tuples -/
def ItzN (K : PySem.W.Frag) (ls : List Addr) (n : Nat) : It :=
  ⟨fun i H => i < n ∧ ∃ xss, AllL K H ls xss n,
   fun i H v H' => ∃ T col, v = .ref T ∧ H T = none ∧ H' = upd H T (.tup col) ∧ ∀ xss, AllL K H ls xss n → col = xss.map fun xs => xs.getD i .non,
   fun i H => n ≤ i ∧ ∃ xss, AllL K H ls xss n⟩
theorem AllL.tail {K : PySem.W.Frag} {H : Hp} {l : Addr} {ls : List Addr} {xs : List V} {xss : List (List V)} {n : Nat} (h : AllL K H (l :: ls) (xs :: xss) n) : SqL K H l xs ∧ xs.length = n ∧ AllL K H ls xss n :=
  ⟨(h.2 0 l xs rfl rfl).1, (h.2 0 l xs rfl rfl).2, by have := h.1; simpa using this, fun t l' xs' h1 h2 => h.2 (t + 1) l' xs' (by simpa using h1) (by simpa using h2)⟩
theorem AllL.inj {X : Cx} {pins : List (Addr × Obj)} {σ : L2.St} {H : Hp} {s : Shared} (I : Inv X pins σ H s) {n : Nat} : ∀ {ls : List Addr} {xss yss : List (List V)}, AllL X.K H ls xss n → AllL X.K H ls yss n → xss = yss
  | [], [], [], _, _ => rfl
  | [], _ :: _, _, h, _ => by have := h.1; simp at this
  | [], _, _ :: _, _, h => by have := h.1; simp at this
  | _ :: _, [], _, h, _ => by have := h.1; simp at this
  | _ :: _, _, [], _, h => by have := h.1; simp at this
  | l :: ls, xs :: xss, ys :: yss, h, h2 => by
    obtain ⟨a1, _, a3⟩ := h.tail
    obtain ⟨b1, _, b3⟩ := h2.tail
    rw [I.list_inj a1 b1, AllL.inj I a3 b3]
theorem AllL.col {X : Cx} {pins : List (Addr × Obj)} {σ : L2.St} {H : Hp} {s : Shared} (I : Inv X pins σ H s) {n i : Nat} (hi : i < n) : ∀ {ls : List Addr} {xss : List (List V)}, AllL X.K H ls xss n →
    ∃ us : List Value, Vals (xss.map fun xs => xs.getD i .non) us ∧ us.length = ls.length ∧ ∀ (t : Nat) l, ls[t]? = some l → ∃ xsA x, s.heap.IsList l xsA ∧ xsA[i]? = some x ∧ us[t]? = some x
  | [], [], _ => ⟨[], .nil, rfl, fun t l h => by simp at h⟩
  | [], _ :: _, h => by have := h.1; simp at this
  | _ :: _, [], h => by have := h.1; simp at this
  | l :: ls, xs :: xss, h => by
    obtain ⟨a1, a2, a3⟩ := h.tail
    obtain ⟨us, u1, u2, u3⟩ := AllL.col I hi a3
    obtain ⟨its, rv, p, _⟩ := I.list a1
    obtain ⟨u, hu, ru⟩ := rv.get (show xs[i]? = some (xs.getD i .non) from by rw [List.getD_eq_getElem?_getD, List.getElem?_eq_getElem (by omega)]; rfl)
    refine ⟨u :: us, .cons ru u1, congrArg (· + 1) u2, fun t l' h' => ?_⟩
    match t with
    | 0 =>
      simp at h'
      subst h'
      exact ⟨its.toArray, u, p.isList, by simpa using hu, rfl⟩
    | t + 1 => exact u3 t l' (by simpa using h')
theorem turn_zipN {P : Program} {w : World} {K : PySem.W.Frag} {x : Str} {tpos : Pos} {z TI TO : Addr} {is ls : List Addr} {n : Nat} (nd : (z :: TI :: TO :: is).Nodup) (hl : ls.length = is.length) (hpos : is ≠ []) (hsz : is.length ≤ 1000) (hap : ∀ l ∈ ls, l ∉ z :: TO :: is) :
    Turn P w K (.Name x tpos) (ItzN K ls n) (z :: TI :: TO :: is) z (fun i h => ∃ f0 f1 vs, IsZipG h z TI TO f0 f1 ∧ (f0 = .none ∨ ∃ a : Int, f0 = rawInt a) ∧ IsTupG h TI (is.map Value.ref) ∧ IsTupG h TO vs ∧ vs.length = is.length ∧ ∀ (t : Nat) it l, is[t]? = some it → ls[t]? = some l → h.IsListIter it l i) where
  mem := List.mem_cons_self
  obj := fun i h st c hc => by
    obtain ⟨f0, f1, vs, hz, hf, hTI, hTO, hvs, hit⟩ := st
    rcases List.mem_cons.mp hc with q | hc
    · rw [q]; exact ⟨_, hz, fun v q => nomatch q⟩
    rcases List.mem_cons.mp hc with q | hc
    · rw [q]; exact ⟨_, hTI, fun v q => nomatch q⟩
    rcases List.mem_cons.mp hc with q | hc
    · rw [q]; exact ⟨_, hTO, fun v q => nomatch q⟩
    obtain ⟨t, ht⟩ := List.getElem?_of_mem hc
    have tl := (List.getElem?_eq_some_iff.mp ht).1
    obtain ⟨o1, e1, _, d1⟩ := hit t c (ls[t]'(by omega)) ht (List.getElem?_eq_getElem _)
    exact ⟨o1, e1, fun v q => by rw [d1] at q; cases q⟩
  keep := fun i h h' st k => by
    obtain ⟨f0, f1, vs, hz, hf, hTI, hTO, hvs, hit⟩ := st
    exact ⟨f0, f1, vs, k z (by simp) _ hz, hf, k TI (by simp) _ hTI, k TO (by simp) _ hTO, hvs, fun t it l e1 e2 => (hit t it l e1 e2).at fun o q => k it (by simp [List.mem_of_getElem? e1]) o q⟩
  item := by
    intro X hP hw hK hc i pins s σ H E I hf st hg
    subst hP hw hK
    obtain ⟨f0, f1, vs, hz, hf0, hTI, hTO, hvs, hit⟩ := st
    obtain ⟨hin, xss, hA⟩ := hg
    obtain ⟨us, u1, u2, u3⟩ := AllL.col I hin hA
    refine pyNext_zipN_item (col := us) nd hl (by rw [u2, hl]) hpos hsz hz hf0 hTI hTO hvs hit (fun t l e => ⟨hap l (List.mem_of_getElem? e), u3 t l e⟩) fun h' g0 g1 ws a1 a2 a3 a4 a5 a6 a7 => ?_
    refine ⟨_, rfl, ?_⟩
    show wpAny _ _ (letOwnedTupleGo (.Name x tpos) _ _) _ _ _
    unfold letOwnedTupleGo
    refine wpAny_pure ?_
    have lx : xss.length = ls.length := hA.1.symm
    have new : ObjOk X.prog X.w (upd H s.heap.objs.size (.tup (xss.map fun xs => xs.getD i .non))) h' s.heap.objs.size (.tup (xss.map fun xs => xs.getD i .non)) :=
      ⟨by rw [List.length_map, lx, hl]; exact Nat.le_trans hsz (by rw [sizeLine_eq]; decide), us, u1, ⟨_, a6, rfl, _, rfl⟩⟩
    have cne : ∀ c o, c ∉ z :: TI :: TO :: is → s.heap.get? c = some o → h'.get? c = some o := fun c o hn e => a7 c o (fun q => hn (by
      rcases List.mem_cons.mp q with q | q
      · simp [q]
      · rcases List.mem_cons.mp q with q | q
        · simp [q]
        · simp [q])) e
    have I1 : Inv X pins σ (upd H s.heap.objs.size (.tup (xss.map fun xs => xs.getD i .non))) { s with heap := h' } :=
      I.turnedNew (t' := s.toks) (ch := z :: TI :: TO :: is) cne hf (Nat.le_refl _) new
    have nd1 := List.nodup_cons.mp nd
    have nd2 := List.nodup_cons.mp nd1.2
    refine ⟨.ref s.heap.objs.size, _, I1, rfl, ⟨_, _, rfl, I.hok.fresh (Nat.le_refl _), rfl, fun yss hy => by rw [AllL.inj I hA hy]⟩, ⟨g0, g1, ws, a1, a2, a7 _ _ (fun q => ?_) hTI, a3, a4, a5⟩, fun c hcm => ?_⟩
    · rcases List.mem_cons.mp q with q | q
      · exact nd1.1 (by rw [← q]; exact List.mem_cons_self)
      · exact nd2.1 q
    · have hlt : c < s.heap.objs.size := by
        rcases List.mem_cons.mp hcm with q | hcm
        · rw [q]; exact Heap.lt_size hz
        rcases List.mem_cons.mp hcm with q | hcm
        · rw [q]; exact Heap.lt_size hTI
        rcases List.mem_cons.mp hcm with q | hcm
        · rw [q]; exact Heap.lt_size hTO
        obtain ⟨t, ht⟩ := List.getElem?_of_mem hcm
        have tl := (List.getElem?_eq_some_iff.mp ht).1
        obtain ⟨o1, e1, _⟩ := hit t c (ls[t]'(by omega)) ht (List.getElem?_eq_getElem _)
        exact Heap.lt_size e1
      rw [upd_ne (Nat.ne_of_lt hlt)]
      exact (hf c hcm).1
  done := by
    intro X hP hw hK hc i pins s σ H E I hf st hg
    subst hP hw hK
    obtain ⟨f0, f1, vs, hz, hf0, hTI, hTO, hvs, hit⟩ := st
    obtain ⟨hin, xss, hA⟩ := hg
    match is, ls, xss, hpos, hl, hA with
    | [], _, _, hpos, _, _ => exact absurd rfl hpos
    | _ :: _, [], _, _, hl, _ => simp at hl
    | _ :: _, _ :: _, [], _, _, hA => have := hA.1; simp at this
    | i0 :: is', l0 :: ls', xs :: xss', _, _, hA =>
      obtain ⟨a1, a2, _⟩ := hA.tail
      obtain ⟨its, rv, p, _⟩ := I.list a1
      have l1 := rv.length
      have nd1 := List.nodup_cons.mp nd
      refine pyNext_zipN_end (I.ok.hd hc) (fun q => nd1.1 (by rw [← q]; simp)) (fun q => hap l0 List.mem_cons_self (by rw [q]; exact List.mem_cons_self)) (fun q => nd1.1 (by rw [← q]; exact List.mem_cons_self)) hz hf0 hTI (hit 0 i0 l0 rfl rfl) p.isList (by simp; omega) fun h' hk => ⟨rfl, I.turnedL (t' := s.toks) (ch := z :: TI :: TO :: i0 :: is') (fun c o hb q => hk c o (fun q' => hb (by simp [q'])) (fun q' => hb (by simp [q'])) q) hf⟩
  self := fun A i s Q E st h => by
    obtain ⟨f0, f1, vs, hz, _⟩ := st
    exact pyIter_zipN hz h
def iZipS (K : PySem.W.Frag) (te : TE) : TI := fun σ H R => te σ H fun y H1 => ∃ a ls xss n, y = .ref a ∧ SqL K H1 a (ls.map V.ref) ∧ ls ≠ [] ∧ ls.length ≤ 1000 ∧ AllL K H1 ls xss n ∧ R (ItzN K ls n) H1
theorem pi_zipS {X : Cx} (K : PySem.W.Frag) {x : Str} {e : Expr} {te : TE} {p pos tpos sp_ : Pos} (h : X.K = K) (hg : Gl X "zip") (hm : X.mg "zip" = none) (he : PE X e te) (hst : starEach [.Starred e sp_] X.env = [(true, eval e X.env)] := by rfl) :
    PI X (.Name x tpos) (.Call (.Name "zip" p) [.Starred e sp_] [] pos) (iZipS K te) := by
  subst h
  refine ⟨fun pins s σ H R I h => ?_⟩
  refine Call_ (ld_blt I hg hm PyProof.Rows.boot_zip (callWith_ST (thn (he.run pins s σ H _ I h) fun v s1 ⟨y, H1, I1, ry, q1⟩ => ?_) hst))
  obtain ⟨a, ls, xss, n, rfl, hS, hpos, hsz, hA, q⟩ := q1
  obtain rfl : v = Value.ref a := ry
  refine StX.star_lst I1 hS fun us s2 I2 rv => ⟨trivial, ?_⟩
  have eus : us = ls.map Value.ref := by
    have key : ∀ (ls : List Addr) (us : List Value), Vals (ls.map V.ref) us → us = ls.map Value.ref := by
      intro ls
      induction ls with
      | nil => intro us r; cases r; rfl
      | cons l ls ih =>
        intro us r
        cases r with
        | cons a b =>
          cases a
          rw [ih _ b]
          rfl
    exact key _ _ rv
  subst eus
  have hLs : ∀ l ∈ ls, ∃ xs, s2.heap.IsList l xs := fun l hl => by
    obtain ⟨t, ht⟩ := List.getElem?_of_mem hl
    have tl := (List.getElem?_eq_some_iff.mp ht).1
    obtain ⟨its, _, p, _⟩ := I2.list (hA.2 t l (xss[t]'(by have := hA.1; omega)) ht (List.getElem?_eq_getElem _)).1
    exact ⟨_, p.isList⟩
  have hlt : ∀ l ∈ ls, l < s2.heap.objs.size := fun l hl => by
    obtain ⟨xs, o, ho, _⟩ := hLs l hl
    exact Heap.lt_size ho
  refine call_zipN hpos hsz hLs fun h' is a1 a2 a3 a4 a5 a6 a7 => pyIter_zipN a6 ?_
  have mi : ∀ b ∈ is, s2.heap.objs.size ≤ b ∧ b < s2.heap.objs.size + ls.length := fun b hb => by
    rw [a2] at hb
    obtain ⟨t, ht, rfl⟩ := List.mem_map.mp hb
    have := List.mem_range.mp ht
    omega
  have ndi : is.Nodup := by
    rw [a2]
    exact List.Pairwise.map _ (fun a b (hab : a ≠ b) => by omega) List.nodup_range
  have nd : ((s2.heap.objs.size + ls.length + 2) :: (s2.heap.objs.size + ls.length) :: (s2.heap.objs.size + ls.length + 1) :: is).Nodup := by
    refine List.nodup_cons.mpr ⟨fun q => ?_, List.nodup_cons.mpr ⟨fun q => ?_, List.nodup_cons.mpr ⟨fun q => ?_, ndi⟩⟩⟩
    · rcases List.mem_cons.mp q with q | q
      · omega
      rcases List.mem_cons.mp q with q | q
      · omega
      have := mi _ q
      omega
    · rcases List.mem_cons.mp q with q | q
      · omega
      have := mi _ q
      omega
    · have := mi _ q
      omega
  have I3 : Inv X pins σ H1 { s2 with heap := h' } := I2.kept (t' := s2.toks) a7
  refine ⟨_, _, _, _, H1, rfl, I3, turn_zipN (n := n) nd a1.symm (fun z => by rw [z] at a1; exact hpos (List.length_eq_zero_iff.mp a1.symm)) (by rw [a1]; exact hsz) (fun l hl q => ?_), ⟨_, _, _, a6, .inl rfl, a4, a5, by rw [List.length_replicate, a1], a3⟩, fun c hcm => ?_, q⟩
  · have := hlt l hl
    rcases List.mem_cons.mp q with q | q
    · rw [q] at this
      exact absurd this (Nat.not_lt.mpr (Nat.le_trans (Nat.le_add_right _ _) (Nat.le_add_right _ _)))
    rcases List.mem_cons.mp q with q | q
    · rw [q] at this
      exact absurd this (Nat.not_lt.mpr (Nat.le_trans (Nat.le_add_right _ _) (Nat.le_add_right _ _)))
    have h3 := (mi _ q).1
    exact absurd (Nat.lt_of_lt_of_le this h3) (Nat.lt_irrefl _)
  · have hle : s2.heap.objs.size ≤ c := by
      rcases List.mem_cons.mp hcm with q | hcm
      · rw [q]; exact Nat.le_trans (Nat.le_add_right _ _) (Nat.le_add_right _ _)
      rcases List.mem_cons.mp hcm with q | hcm
      · rw [q]; exact Nat.le_add_right _ _
      rcases List.mem_cons.mp hcm with q | hcm
      · rw [q]; exact Nat.le_trans (Nat.le_add_right _ _) (Nat.le_add_right _ _)
      exact (mi _ hcm).1
    exact I2.fpOk hle (I2.hok.fresh hle)
/-- the columns of a table -/
theorem walk_zipN {K : PySem.W.Frag} {ls : List Addr} {xss : List (List V)} {n : Nat} : Walk (ItzN K ls n) n (fun H => AllL K H ls xss n) (fun i H x H' => ∃ T, x = .ref T ∧ H T = none ∧ H' = upd H T (.tup (xss.map fun xs => xs.getD i .non))) :=
  ⟨fun i _ hi q => ⟨hi, xss, q⟩, fun _ q => ⟨Nat.le_refl _, xss, q⟩, fun _ _ _ _ _ q y => by
    obtain ⟨T, col, e1, e2, e3, e4⟩ := y
    rw [e4 xss q] at e3
    exact ⟨T, e1, e2, e3⟩⟩

section
variable {K : PySem.W.Frag}
theorem iteT' {b : Bool} {A B : Prop} (e : b = true) (h : A) : if b = true then A else B := by
  subst e
  exact h
theorem iteF' {b : Bool} {A B : Prop} (e : b = false) (h : B) : if b = true then A else B := by
  subst e
  exact h
theorem Tab.allL {H : Hp} {a : Addr} {rs : List Addr} {A : List Row} {n : Nat} (t : Tab H a rs A) (h : ∀ r ∈ A, r.length = n) : AllL K H rs (A.map iv) n :=
  ⟨by rw [List.length_map, t.len], fun i r xs hr hx => by
    rw [List.getElem?_map] at hx
    cases e : A[i]? with
    | none => rw [e] at hx; cases hx
    | some m =>
      rw [e] at hx
      cases hx
      exact ⟨IL.sq (t.row i r m hr e), by rw [List.length_map]; exact h m (List.mem_of_getElem? e)⟩⟩
theorem AllL.same {H H' : Hp} {ls : List Addr} {xss : List (List V)} {n : Nat} (a : AllL K H ls xss n) (s : Same H H') : AllL K H' ls xss n :=
  ⟨a.1, fun t l xs h1 h2 => ⟨s.seq (a.2 t l xs h1 h2).1, (a.2 t l xs h1 h2).2⟩⟩
end

section
variable {K : PySem.W.Frag}
theorem pair_dp {H : Hp} {z a b : Addr} {rs qs : List Addr} {A B : List Row} (hz : H z = some (.lst [.ref a, .ref b])) (ta : Tab H a rs A) (tb : Tab H b qs B) : Dp K H (.ref z) (dTabs [A, B]) :=
  .lst (SqL.of hz) (.cons ta.dp (.cons tb.dp .nil))
theorem trio_dp {H : Hp} {z a b c : Addr} {rs qs us : List Addr} {A B C : List Row} (hz : H z = some (.lst [.ref a, .ref b, .ref c])) (ta : Tab H a rs A) (tb : Tab H b qs B) (tc : Tab H c us C) : Dp K H (.ref z) (dTabs [A, B, C]) :=
  .lst (SqL.of hz) (.cons ta.dp (.cons tb.dp (.cons tc.dp .nil)))
end
theorem Tab.keep {H H' : Hp} {w u : Addr} {ws us : List Addr} {O : List Row} (t : Tab H w ws O) (e : ∀ q, q ≠ u → q ∉ us → H' q = H q) (h1 : w ≠ u ∧ w ∉ us) (h2 : ∀ r ∈ ws, r ≠ u ∧ r ∉ us) : Tab H' w ws O :=
  ⟨(e w h1.1 h1.2).trans t.at_, t.len, fun i r m hr hm => (e r (h2 r (List.mem_of_getElem? hr)).1 (h2 r (List.mem_of_getElem? hr)).2).trans (t.row i r m hr hm)⟩
theorem Tab.fresh_ne {H : Hp} {a v : Addr} {rs : List Addr} {M : List Row} (t : Tab H a rs M) (h : H v = none) : v ≠ a ∧ v ∉ rs :=
  ⟨fun e => (by rw [e, t.at_] at h; cases h), fun hm => by
    obtain ⟨m, _, hm2⟩ := IL.ref t hm
    rw [show H v = _ from hm2] at h
    cases h⟩
theorem Tab.keeps {H H0 H' : Hp} {w u : Addr} {ws us : List Addr} {O N : List Row} (t : Tab H w ws O) (e : ∀ q, q ≠ u → q ∉ us → H' q = H q) (tu : Tab H0 u us N) (h1 : H0 w = none) (h2 : ∀ r ∈ ws, H0 r = none) : Tab H' w ws O :=
  t.keep e (tu.fresh_ne h1) fun r hr => tu.fresh_ne (h2 r hr)
theorem any_zeros (n : Nat) : (zeros n).any (fun x => x != 0) = false := by
  unfold zeros
  rw [List.any_replicate]
  simp

section
/-- a table that was not there in H0 -/
structure TabN (H0 H : Hp) (a : Addr) (rs : List Addr) (M : List Row) : Prop where
  tab : Tab H a rs M
  na : H0 a = none
  nr : ∀ r ∈ rs, H0 r = none
theorem TabN.same {H0 H H' : Hp} {a : Addr} {rs : List Addr} {M : List Row} (t : TabN H0 H a rs M) (s : Same H H') : TabN H0 H' a rs M := ⟨t.tab.same s, t.na, t.nr⟩
theorem TabN.off {H0 H H' : Hp} {a b : Addr} {rs : List Addr} {M : List Row} {c : Nat} (t : TabN H0 H a rs M) (hb : Bg H0 b c) (o : Off b H H') : TabN H0 H' a rs M :=
  ⟨t.tab.off o (hb.ne t.na) fun r hr => hb.ne (t.nr r hr), t.na, t.nr⟩
theorem TabN.mk2 {H0 H H' : Hp} {a b : Addr} {rs : List Addr} {M : List Row} {d : Nat} (o : Off b H0 H) (hb : Bg H b d) (t : Tab H' a rs M) (na : H a = none) (nr : ∀ r ∈ rs, H r = none) : TabN H0 H' a rs M :=
  ⟨t, o.free na (hb.ne na), fun r hr => o.free (nr r hr) (hb.ne (nr r hr))⟩
def flM (m n : Nat) : List Row := (List.range m).map (unitR n)
theorem flM_len {m n : Nat} : (flM m n).length = m := by unfold flM; rw [List.length_map, List.length_range]
theorem flM_get {m n i : Nat} (h : i < m) : (flM m n)[i]? = some (unitR n i) := by
  unfold flM
  rw [List.getElem?_map, List.getElem?_range h]
  rfl
theorem flM_wf {p : Int} (hp : 2 ≤ p) {m n : Nat} : ∀ r ∈ flM m n, Wf p n r := fun r hr => by
  obtain ⟨i, _, rfl⟩ := List.mem_map.mp hr
  exact unitR_wf hp
end
theorem Bg.same' {H H' : Hp} {b : Addr} {c : Nat} (h : Bg H b c) (s : Same H H') : Bg H' b c := by
  obtain ⟨x, y, h1, h2⟩ := h
  exact ⟨x, y, s _ _ h1, h2⟩
theorem slL {X : Cx} (K : PySem.W.Frag) (h : X.K = K := by rfl) : SlR X (rSlL K) := h ▸ sl_list
theorem cutFrom (xs : List V) (e : Nat) : cutV xs (some (e : Int)) none = xs.drop e := by
  unfold cutV
  have h : HT.sIx xs.length 0 (some (e : Int)) = min e xs.length := by
    unfold HT.sIx
    simp
    omega
  have h2 : HT.sIx xs.length xs.length none = xs.length := rfl
  rw [h, h2]
  by_cases c : e ≤ xs.length
  · rw [Nat.min_eq_left c]
    exact List.take_of_length_le (by rw [List.length_drop]; omega)
  · rw [Nat.min_eq_right (by omega), List.drop_eq_nil_of_le (Nat.le_refl _), List.drop_eq_nil_of_le (by omega), List.take_nil]
theorem cutTo (xs : List V) (e : Nat) : cutV xs none (some (e : Int)) = xs.take e := by
  unfold cutV
  have h : HT.sIx xs.length xs.length (some (e : Int)) = min e xs.length := by
    unfold HT.sIx
    simp
    omega
  have h2 : HT.sIx xs.length 0 none = 0 := rfl
  rw [h, h2, List.drop_zero, Nat.sub_zero]
  by_cases c : e ≤ xs.length
  · rw [Nat.min_eq_left c]
  · rw [Nat.min_eq_right (by omega), List.take_of_length_le (Nat.le_refl _), List.take_of_length_le (by omega)]
theorem Tab.rne {H : Hp} {l : Addr} {rs : List Addr} {M : List Row} (t : Tab H l rs M) : ∀ r ∈ rs, r ≠ l := fun r hr => by
  obtain ⟨m, _, hm⟩ := IL.ref t hr
  have z := t.at_
  cases rs with
  | nil => simp at hr
  | cons x rs => exact rf_ne z hm
theorem Tab.setRow {H : Hp} {l D : Addr} {rs : List Addr} {M : List Row} {m : Row} {i : Nat} (t : Tab H l rs M) (h : IL H D m) (hD : D ≠ l) : Tab (L2.upd H l (.lst ((rf rs).set i (.ref D)))) l (rs.set i D) (M.set i m) := by
  have hne := t.rne
  refine ⟨?_, by rw [List.length_set, List.length_set, t.len], fun k r u hr hu => ?_⟩
  · rw [upd_same]
    show some (HO.lst ((rs.map V.ref).set i (V.ref D))) = some (HO.lst ((rs.set i D).map V.ref))
    rw [List.map_set]
  · show (L2.upd H l _) r = _
    rw [List.getElem?_set] at hr hu
    by_cases e : i = k
    · rw [if_pos e] at hr hu
      split at hr
      · split at hu
        · cases Option.some.inj hr
          cases Option.some.inj hu
          rw [upd_ne hD]
          exact h
        · cases hu
      · cases hr
    · rw [if_neg e] at hr hu
      rw [upd_ne (hne r (List.mem_of_getElem? hr))]
      exact t.row k r u hr hu
theorem set_fresh {H : Hp} {rs : List Addr} {D : Addr} {i : Nat} (h : ∀ r ∈ rs, H r = none) (hD : H D = none) : ∀ r ∈ rs.set i D, H r = none := fun r hr => by
  rcases List.mem_or_eq_of_mem_set hr with h1 | h1
  · exact h r h1
  · rw [h1]; exact hD
theorem set_wf {p : Int} {n i : Nat} {M : List Row} {m : Row} (h : ∀ r ∈ M, Wf p n r) (hm : Wf p n m) : ∀ r ∈ M.set i m, Wf p n r := fun r hr => by
  rcases List.mem_or_eq_of_mem_set hr with h1 | h1
  · exact h r h1
  · rw [h1]; exact hm
theorem plain_id (n : Nat) : plainM n = idM n := rfl
theorem eqvAll_rows2 : ∀ A B : List Row, PyData.eqvAll (A.map dRow) (B.map dRow) = decide (A = B)
  | [], [] => rfl
  | [], b :: B => by simp [PyData.eqvAll]
  | a :: A, [] => by simp [PyData.eqvAll]
  | a :: A, b :: B => by
    show PyData.eqvAll (dRow a :: A.map dRow) (dRow b :: B.map dRow) = _
    rw [PyData.eqvAll, dRow_eqv, eqvAll_rows2 A B]
    by_cases h : a = b
    · by_cases h2 : A = B
      · rw [decide_eq_true h, decide_eq_true h2, decide_eq_true (by rw [h, h2])]
        rfl
      · rw [decide_eq_false h2, decide_eq_false (show ¬ (a :: A = b :: B) from fun z => h2 (List.cons.inj z).2), Bool.and_false]
    · rw [decide_eq_false h, decide_eq_false (show ¬ (a :: A = b :: B) from fun z => h (List.cons.inj z).1), Bool.false_and]
theorem dTab_eqv2 (A B : List Row) : PyData.eqv (dTab A) (dTab B) = decide (A = B) := by
  show PyData.eqv (.list _) (.list _) = _
  rw [PyData.eqv]
  exact eqvAll_rows2 A B
def rAddK : R2 := fun x y H Q => ∃ i j k : Int, x = .int i ∧ y = .int j ∧ i + j = k ∧ Q (.int k) H
/-- a sum whose worth is told -/
theorem op_addK {X : Cx} : OpR X (binaryOp .Add) rAddK := fun pins s σ H x y v u Q I r1 r2 h => by
  obtain ⟨i, j, k, rfl, rfl, rfl, q⟩ := h
  exact op_add pins s σ H _ _ v u Q I r1 r2 ⟨i, j, rfl, rfl, q⟩
def rSubK : R2 := fun x y H Q => ∃ i j k : Int, x = .int i ∧ y = .int j ∧ i - j = k ∧ Q (.int k) H
theorem op_subK {X : Cx} : OpR X (binaryOp .Sub) rSubK := fun pins s σ H x y v u Q I r1 r2 h => by
  obtain ⟨i, j, k, rfl, rfl, rfl, q⟩ := h
  exact op_sub pins s σ H _ _ v u Q I r1 r2 ⟨i, j, rfl, rfl, q⟩
def rMulK : R2 := fun x y H Q => ∃ i j k : Int, x = .int i ∧ y = .int j ∧ CMul i j ∧ i * j = k ∧ Q (.int k) H
theorem op_mulK {X : Cx} : OpR X (binaryOp .Mult) rMulK := fun pins s σ H x y v u Q I r1 r2 h => by
  obtain ⟨i, j, k, rfl, rfl, c, rfl, q⟩ := h
  exact op_mul pins s σ H _ _ v u Q I r1 r2 ⟨i, j, rfl, rfl, c, q⟩

section
variable {K : PySem.W.Frag}
/-- a row and a table -/
def dPT (r : Row) (A : List Row) : PyData := .list [dRow r, dTab A]
theorem dPT_lay (r : Row) (A : List Row) : (dPT r A).canLay0 = true := by
  show ((dRow r).canLay0 && ((dTab A).canLay0 && true)) = true
  rw [dRow_lay, show (dTab A).canLay0 = true from dRows_lay A]
  rfl
theorem dPT_shaped (r : Row) (A : List Row) : SeqAt.shaped (dPT r A) = true := by
  have h : (dPT r A).depth ≤ 64 := by
    show max (dRow r).depth (max (dTab A).depth 0) + 1 ≤ 64
    have := dTab_depth A
    have := dRow_depth r
    omega
  show ((dPT r A).canLay0 && decide ((dPT r A).depth ≤ 64)) = true
  rw [decide_eq_true h, dPT_lay]
  rfl
theorem dPT_eq (r : Row) (A : List Row) : PyData.eqv (dPT r A) (dPT r A) = true := SeqAt.eqv_refl _ (dPT_lay r A)
theorem pt_dp {H : Hp} {z a c : Addr} {rs : List Addr} {r : Row} {A : List Row} (hz : H z = some (.lst [.ref c, .ref a])) (hc : IL H c r) (ta : Tab H a rs A) : Dp K H (.ref z) (dPT r A) :=
  .lst (SqL.of hz) (.cons hc.dp (.cons ta.dp .nil))
/-- rows that are made longer, one after the other -/
theorem grow_rows {H0 H' : Hp} {t r : Addr} {ts : List Addr} {xs : List V} {v : V} {k : Nat} (n0 : H0 r = none) (sm : Same H0 H') (et : H' t = some (.lst (rf ts))) (nt : t ≠ r) (al : ∀ u ∈ ts, ∃ xs, H' u = some (.lst xs) ∧ xs.length ≤ k) (ex : H' r = some (.lst xs)) (lx : xs.length ≤ k) :
    Same H0 (L2.upd H' r (.lst (xs ++ [v]))) ∧ (L2.upd H' r (.lst (xs ++ [v]))) t = some (.lst (rf ts)) ∧ ∀ u ∈ ts, ∃ xs', (L2.upd H' r (.lst (xs ++ [v]))) u = some (.lst xs') ∧ xs'.length ≤ k + 1 := by
  refine ⟨same_upd n0 sm, by rw [upd_ne nt]; exact et, fun u hu => ?_⟩
  by_cases e : u = r
  · subst e
    exact ⟨_, upd_same, by rw [List.length_append, List.length_singleton]; omega⟩
  · obtain ⟨xs2, e2, l2⟩ := al u hu
    exact ⟨xs2, by rw [upd_ne e]; exact e2, by omega⟩
end

section
theorem ent_set2 {m : Row} {i : Nat} {x : Int} (h : i < m.length) (k : Nat) : ent (m.set i x) k = if k = i then x else ent m k := by
  unfold ent
  rw [List.getD_eq_getElem?_getD, List.getElem?_set]
  by_cases e : i = k
  · rw [if_pos e, if_pos h, if_pos e.symm]
    rfl
  · rw [if_neg e, if_neg (fun z => e z.symm), List.getD_eq_getElem?_getD]
theorem rng_set {p : Int} {m : Row} {i : Nat} {x : Int} (h : ∀ y ∈ m, 0 ≤ y ∧ y < p) (h0 : 0 ≤ x) (h1 : x < p) : ∀ y ∈ m.set i x, 0 ≤ y ∧ y < p := fun y hy => by
  rcases List.mem_or_eq_of_mem_set hy with z | z
  · exact h y z
  · rw [z]
    exact ⟨h0, h1⟩
end

section
variable {K : PySem.W.Frag}
/-- a prime and a size that fit -/
def FitP (p : Int) (n : Nat) : Prop := P5 p ∧ 1 ≤ n ∧ n ≤ 6
def WT (p : Int) (n : Nat) (Ms : List (List Row)) : Prop := ∀ M ∈ Ms, M.length = n ∧ Wfs p n M
structure Crw (H : Hp) (t : Addr) (p : Int) (n : Nat) (a : Addr) (vs : List V) (Ms : List (List Row)) : Prop where
  at_ : H t = some (.tup [.int p, .int (n : Int), .ref a])
  ls : H a = some (.lst vs)
  al : Al RT H vs Ms
theorem Crw.same {H H' : Hp} {t a : Addr} {p : Int} {n : Nat} {vs : List V} {Ms : List (List Row)} (c : Crw H t p n a vs Ms) (s : Same H H') : Crw H' t p n a vs Ms := ⟨s _ _ c.at_, s _ _ c.ls, c.al.same RT.mono s⟩
def dCrw (p : Int) (n : Nat) (Ms : List (List Row)) : PyData := .tuple [.int p, .int (n : Int), dTabs Ms]
theorem dTabs_depth (Ms : List (List Row)) : (dTabs Ms).depth ≤ 3 := by
  show PyData.depthAll (Ms.map dTab) + 1 ≤ 3
  have := dTabs_depth2 Ms
  omega
theorem dCrw_lay (p : Int) (n : Nat) (Ms : List (List Row)) : (dCrw p n Ms).canLay0 = true := by
  show (PyData.canLay0 (.int p) && (PyData.canLay0 (.int (n : Int)) && ((dTabs Ms).canLay0 && true))) = true
  rw [show (dTabs Ms).canLay0 = true from dTabs_lay Ms]
  rfl
theorem dCrw_depth (p : Int) (n : Nat) (Ms : List (List Row)) : (dCrw p n Ms).depth ≤ 4 := by
  show max (PyData.depth (.int p)) (max (PyData.depth (.int (n : Int))) (max (dTabs Ms).depth 0)) + 1 ≤ 4
  have := dTabs_depth Ms
  have e : ∀ x : Int, PyData.depth (.int x) = 0 := fun _ => rfl
  rw [e, e]
  omega
theorem Crw.dp {H : Hp} {t a : Addr} {p : Int} {n : Nat} {vs : List V} {Ms : List (List Row)} (c : Crw H t p n a vs Ms) : Dp K H (.ref t) (dCrw p n Ms) :=
  .tup (SqT.of c.at_) (.cons (.int _) (.cons (.int _) (.cons (.lst (SqL.of c.ls) (al_dp c.al)) .nil)))
theorem nw_off {b : Addr} {H1 H H' : Hp} {c : Nat} (hb : Bg H1 b c) (o : Off b H H') : Same (nw H1 H) (nw H1 H') := fun q u e => by
  obtain ⟨e1, e2⟩ := nw_inv e
  rw [nw_at e1]
  exact o q u (hb.ne e1) e2
/-- a pair of numbers -/
def RP (H : Hp) (v : V) (x : Int × Int) : Prop := ∃ t, v = .ref t ∧ H t = some (.tup [.int x.1, .int x.2])
theorem RP.mono : Mono RP := fun _ _ _ _ s h => by
  obtain ⟨r, e, h⟩ := h
  exact ⟨r, e, s _ _ h⟩
theorem pairPush {H1 G : Hp} {vs : List V} {xs : List (Int × Int)} {t : Addr} (p n : Int) (al : Al RP (nw H1 G) vs xs) (s : Same H1 G) (nt : G t = none) :
    Al RP (nw H1 (L2.upd G t (.tup [.int p, .int n]))) (vs ++ [.ref t]) (xs ++ [(p, n)]) ∧ Same H1 (L2.upd G t (.tup [.int p, .int n])) := by
  have s2 : Same G (L2.upd G t (.tup [.int p, .int n])) := same_new nt
  exact ⟨(al.same RP.mono (nw_mono s2)).app (.cons ⟨t, rfl, (nw_at (s.free nt)).trans upd_same⟩ .nil), s.trans s2⟩
theorem Al.atI {α : Type} {R : Hp → V → α → Prop} {H : Hp} {vs : List V} {xs : List α} (al : Al R H vs xs) {d : Int} (h0 : 0 ≤ d) (h1 : d < (xs.length : Int)) : ∃ v x, atI vs d = some v ∧ x ∈ xs ∧ R H v x := by
  obtain ⟨D, rfl⟩ := Int.eq_ofNat_of_zero_le h0
  obtain ⟨x, hx⟩ := get_of (l := xs) (i := D) (by omega)
  obtain ⟨v, hv, r⟩ := al.at hx
  exact ⟨v, x, atI_nat hv, List.mem_of_getElem? hx, r⟩
end
section
def rModK : R2 := fun x y H Q => ∃ i j k : Int, x = .int i ∧ y = .int j ∧ 0 < j ∧ i % j = k ∧ Q (.int k) H
theorem op_modK {X : Cx} : OpR X (binaryOp .Mod) rModK := fun pins s σ H x y v u Q I r1 r2 h => by
  obtain ⟨i, j, k, rfl, rfl, c, rfl, q⟩ := h
  exact op_mod pins s σ H _ _ v u Q I r1 r2 ⟨i, j, rfl, rfl, c, q⟩
def rDivK : R2 := fun x y H Q => ∃ i j k : Int, x = .int i ∧ y = .int j ∧ 0 < j ∧ j < 1073741824 ∧ i / j = k ∧ Q (.int k) H
theorem op_fdivK {X : Cx} : OpR X (binaryOp .FloorDiv) rDivK := fun pins s σ H x y v u Q I r1 r2 h => by
  obtain ⟨i, j, k, rfl, rfl, c1, c2, rfl, q⟩ := h
  exact op_fdiv pins s σ H _ _ v u Q I r1 r2 ⟨i, j, rfl, rfl, ⟨c1, c2⟩, q⟩
def dblR (h i : Nat) (r : Row) (n : Nat) : Row := (List.range n).map fun j => ent r (j % h) * (if i / h = j / h then 1 else 0)
def dblM (h n : Nat) (M : List Row) : List Row := (List.range n).map fun i => dblR h i (M.getD (i % h) []) n
theorem dblR_len {h i n : Nat} {r : Row} : (dblR h i r n).length = n := by unfold dblR; rw [List.length_map, List.length_range]
theorem dblR_get {h i n j : Nat} {r : Row} (hj : j < n) : (dblR h i r n)[j]? = some (ent r (j % h) * (if i / h = j / h then 1 else 0)) := by
  unfold dblR
  rw [List.getElem?_map, List.getElem?_range hj]
  rfl
theorem dblR_wf {p : Int} {h i n : Nat} {r : Row} (hp : 2 ≤ p) (hh : 0 < h) (hn : h ≤ n) (w : Wf p n r) : Wf p n (dblR h i r n) := ⟨dblR_len, fun x hx => by
  obtain ⟨j, hj, rfl⟩ := List.mem_map.mp hx
  have e := w.ent (show j % h < n from Nat.lt_of_lt_of_le (Nat.mod_lt _ hh) hn)
  split
  · rw [Int.mul_one]; exact e
  · rw [Int.mul_zero]; omega⟩
theorem dblM_len {h n : Nat} {M : List Row} : (dblM h n M).length = n := by unfold dblM; rw [List.length_map, List.length_range]
theorem dblM_get {h n i : Nat} {M : List Row} (hi : i < n) : (dblM h n M)[i]? = some (dblR h i (M.getD (i % h) []) n) := by
  unfold dblM
  rw [List.getElem?_map, List.getElem?_range hi]
  rfl
end
section
theorem same_off_new {H H1 H2 : Hp} {b : Addr} (s : Same H H1) (nb : H b = none) (o : Off b H1 H2) : Same H H2 := fun q u e => o q u (ne_of_none e nb) (s q u e)
theorem same_wo_new {H H1 : Hp} {b : Addr} (s : Same H H1) (nb : H b = none) : Same H (wo b H1) := fun q u e => by
  rw [wo_ne (ne_of_none e nb)]
  exact s q u e
theorem tab_of {H : Hp} {P : Row → Prop} : ∀ {us : List Addr}, (∀ u ∈ us, ∃ m, IL H u m ∧ P m) → ∃ M : List Row, us.length = M.length ∧ (∀ (i : Nat) u m, us[i]? = some u → M[i]? = some m → IL H u m) ∧ ∀ m ∈ M, P m
  | [], _ => ⟨[], rfl, fun i u m h => by simp at h, fun m h => by simp at h⟩
  | u :: us, h => by
    obtain ⟨M, l, r, q⟩ := tab_of (us := us) fun v hv => h v (List.mem_cons_of_mem _ hv)
    obtain ⟨m, hm, pm⟩ := h u List.mem_cons_self
    refine ⟨m :: M, congrArg (· + 1) l, fun i v w h1 h2 => ?_, fun w hw => ?_⟩
    · match i with
      | 0 =>
        simp at h1 h2
        rw [← h1, ← h2]
        exact hm
      | i + 1 => exact r i v w (by simpa using h1) (by simpa using h2)
    · rcases List.mem_cons.mp hw with e | e
      · rw [e]; exact pm
      · exact q w e
def tblI (c : Int) (n : Nat) : List Row := (List.range n).map fun i => (List.range n).map fun j => c * (if i = j then 1 else 0)
theorem tblI_len {c : Int} {n : Nat} : (tblI c n).length = n := by unfold tblI; rw [List.length_map, List.length_range]
theorem tblI_get {c : Int} {n i : Nat} (h : i < n) : (tblI c n)[i]? = some ((List.range n).map fun j => c * (if i = j then 1 else 0)) := by
  unfold tblI
  rw [List.getElem?_map, List.getElem?_range h]
  rfl
theorem tblI_wf {p c : Int} {n : Nat} (h0 : 0 ≤ c) (h1 : c < p) : ∀ r ∈ tblI c n, Wf p n r := fun r hr => by
  obtain ⟨i, _, rfl⟩ := List.mem_map.mp hr
  refine ⟨by rw [List.length_map, List.length_range], fun x hx => ?_⟩
  obtain ⟨j, _, rfl⟩ := List.mem_map.mp hx
  split <;> omega
end

/-! Still spans: the least one that has some rows, and how it is come to. -/
section
variable {p : Int} {n : Nat}
theorem dot_map_range {v : Nat → Int} {M : List Row} {j : Nat} : dot ((List.range n).map v) M j = dot ((List.range' 0 n).map v) M j := by rw [map_range']
theorem dot_vcong {u v : Nat → Int} {M : List Row} {j : Nat} (h : ∀ i, i < n → cg p (u i) (v i)) : cg p (dot ((List.range n).map u) M j) (dot ((List.range n).map v) M j) := by
  refine dot_cong (fun i => ?_) (by rw [List.length_map, List.length_map])
  by_cases c : i < n
  · rw [ent_map c, ent_map c]
    exact h i c
  · rw [ent_map_out c, ent_map_out c]
    exact cg.refl _ _
/-- what is led of a span's row is in the span of what is led of its rows -/
theorem spn_led {F G : List Row} {M : List Row} (lF : ∀ f ∈ F, f.length = n) (h : ∀ f ∈ F, Spn p n G (dot f M)) {v : Nat → Int} (hv : Spn p n F v) : Spn p n G (dot ((List.range n).map v) M) := by
  induction hv with
  | zero z =>
    refine .zero fun j hj => ?_
    refine (dot_vcong (p := p) (v := fun _ => 0) z).trans (cg.of_eq ?_)
    exact dot_flat fun _ => rfl
  | @add u v r c hr hu e ih =>
    have hg := h r hr
    refine (Spn.lin c ih hg).cong fun j hj => ?_
    refine (dot_vcong (p := p) e).trans ?_
    rw [dot_map_range, dot_add, ← dot_map_range, ← dot_map_range]
    have er : (List.range n).map (fun i => ent r i) = r := by
      have := row_map (r := r)
      rw [lF r hr] at this
      exact this
    rw [er]
    exact cg.refl _ _
theorem spn_led_row {F G : List Row} {M : List Row} (lF : ∀ f ∈ F, f.length = n) (h : ∀ f ∈ F, Spn p n G (dot f M)) {r : Row} (lr : r.length = n) (hr : Spn p n F (ent r)) : Spn p n G (dot r M) := by
  have z := spn_led lF h hr
  have er : (List.range n).map (ent r) = r := by
    have := row_map (r := r)
    rw [lr] at this
    exact this
  rw [er] at z
  exact z
theorem spn_mix_iff {G : List Row} {r : Row} {M : List Row} : Spn p n G (ent (mixM p r M n)) ↔ Spn p n G (dot r M) :=
  ⟨fun h => h.cong fun j hj => by rw [mixM_ent hj]; exact (cg.emod _ _).symm, fun h => h.cong fun j hj => by rw [mixM_ent hj]; exact cg.emod _ _⟩
theorem in_iff (hp : 2 ≤ p) {F : List Row} {ls : List Nat} (L : Low p n F ls) {t : Row} (w : Wf p n t) : mixM p (shr ls t) F n = t ↔ Spn p n F (ent t) :=
  ⟨fun h => by
    rw [← h]
    exact spn_mix_iff.mpr (dot_spn _ _ fun r hr => hr), fun h => low_mix hp L w h⟩
/-- a span that the tables lead into itself -/
def Stl (p : Int) (n : Nat) (Ms : List (List Row)) (G : List Row) : Prop := ∀ M ∈ Ms, ∀ r ∈ G, Spn p n G (dot r M)
/-- the form of the least still span with some rows -/
structure Spin (p : Int) (n : Nat) (Ms : List (List Row)) (R F : List Row) (ls : List Nat) : Prop where
  low : Low p n F ls
  has : ∀ r ∈ R, Spn p n F (ent r)
  still : Stl p n Ms F
  least : ∀ G : List Row, (∀ g ∈ G, g.length = n) → (∀ r ∈ R, Spn p n G (ent r)) → Stl p n Ms G → ∀ r ∈ F, Spn p n G (ent r)
theorem Spin.len {Ms : List (List Row)} {R F : List Row} {ls : List Nat} (S : Spin p n Ms R F ls) : ∀ f ∈ F, f.length = n := fun f hf => (S.low.wf f hf).len
theorem Spin.same (hp : 2 ≤ p) {Ms : List (List Row)} {R R2 F G : List Row} {ls ms : List Nat} (A : Spin p n Ms R F ls) (B : Spin p n Ms R2 G ms) (h1 : ∀ r ∈ R, Spn p n G (ent r)) (h2 : ∀ r ∈ R2, Spn p n F (ent r)) : F = G :=
  low_unique hp A.low B.low (A.least G B.len h1 B.still) (B.least F A.len h2 A.still)
theorem Spin.uniq (hp : 2 ≤ p) {Ms : List (List Row)} {R F G : List Row} {ls ms : List Nat} (A : Spin p n Ms R F ls) (B : Spin p n Ms R G ms) : F = G := A.same hp B B.has A.has
/-- all rows are in the span of all -/
theorem spn_all (hp : 2 ≤ p) (v : Nat → Int) : Spn p n (plainM n) v := by
  have w : Wf p n ((List.range n).map fun j => v j % p) := ⟨by rw [List.length_map, List.length_range], fun x hx => by
    obtain ⟨j, _, rfl⟩ := List.mem_map.mp hx
    exact ⟨Int.emod_nonneg _ (by omega), Int.emod_lt_of_pos _ (by omega)⟩⟩
  have e := led_plain (n := n) (by omega) w
  have z : Spn p n (plainM n) (ent ((List.range n).map fun j => v j % p)) := by
    rw [← e]
    exact spn_mix_iff.mpr (dot_spn _ _ fun r hr => hr)
  refine z.cong fun j hj => ?_
  rw [ent_map hj]
  exact (cg.emod _ _).symm
theorem low_plain (hp : 2 ≤ p) : Low p n (plainM n) (List.range n) := idM_low hp
theorem low_full (hp : 2 ≤ p) {F : List Row} {ls : List Nat} (L : Low p n F ls) (h : F.length = n) : F = plainM n :=
  low_as_many hp L (low_plain hp) (fun _ _ => spn_all hp _) (by rw [h, plainM_len])
/-- the run: what waits, what is done -/
structure SpW (p : Int) (n : Nat) (Ms : List (List Row)) (R F W : List Row) : Prop where
  has : ∀ r ∈ R, Spn p n F (ent r)
  least : ∀ G : List Row, (∀ g ∈ G, g.length = n) → (∀ r ∈ R, Spn p n G (ent r)) → Stl p n Ms G → ∀ r ∈ F, Spn p n G (ent r)
  done : ∃ D : List Row, (∀ d ∈ D, d.length = n) ∧ (∀ d ∈ D, ∀ M ∈ Ms, Spn p n F (dot d M)) ∧ ∀ r ∈ F, Spn p n (D ++ W) (ent r)
  wF : ∀ w ∈ W, Wf p n w ∧ Spn p n F (ent w)
/-- within: one row, of so many tables -/
structure SpK (p : Int) (n : Nat) (Ms : List (List Row)) (R F W : List Row) (h : Row) (k : Nat) : Prop where
  has : ∀ r ∈ R, Spn p n F (ent r)
  least : ∀ G : List Row, (∀ g ∈ G, g.length = n) → (∀ r ∈ R, Spn p n G (ent r)) → Stl p n Ms G → ∀ r ∈ F, Spn p n G (ent r)
  done : ∃ D : List Row, (∀ d ∈ D, d.length = n) ∧ (∀ d ∈ D, ∀ M ∈ Ms, Spn p n F (dot d M)) ∧ ∀ r ∈ F, Spn p n (h :: D ++ W) (ent r)
  wF : ∀ w ∈ W, Wf p n w ∧ Spn p n F (ent w)
  hF : Wf p n h ∧ Spn p n F (ent h)
  led : ∀ M ∈ Ms.take k, Spn p n F (dot h M)
theorem SpW.start {Ms : List (List Row)} {R F : List Row} (wF : ∀ f ∈ F, Wf p n f) (h1 : ∀ r ∈ R, Spn p n F (ent r)) (h2 : ∀ r ∈ F, Spn p n R (ent r)) : SpW p n Ms R F F :=
  ⟨h1, fun G _ hR _ r hr => (h2 r hr).mono hR, ⟨[], fun d hd => (by simp at hd), fun d hd => (by simp at hd), fun r hr => .mem hr⟩, fun w hw => ⟨wF w hw, .mem hw⟩⟩
theorem SpW.pop {Ms : List (List Row)} {R F W : List Row} {h : Row} (S : SpW p n Ms R F (W ++ [h])) : SpK p n Ms R F W h 0 := by
  obtain ⟨D, d1, d2, d3⟩ := S.done
  refine ⟨S.has, S.least, ⟨D, d1, d2, fun r hr => (d3 r hr).incl fun x hx => ?_⟩, fun w hw => S.wF w (List.mem_append_left _ hw), S.wF h (by simp), fun M hM => by simp at hM⟩
  simp only [List.cons_append, List.mem_cons, List.mem_append, List.mem_singleton, List.not_mem_nil, or_false] at hx ⊢
  rcases hx with h | h | h
  · exact .inr (.inl h)
  · exact .inr (.inr h)
  · exact .inl h
theorem SpK.fin {Ms : List (List Row)} {R F W : List Row} {h : Row} {k : Nat} (S : SpK p n Ms R F W h k) (hk : Ms.length ≤ k) : SpW p n Ms R F W := by
  obtain ⟨D, d1, d2, d3⟩ := S.done
  have hl := S.led
  rw [List.take_of_length_le hk] at hl
  refine ⟨S.has, S.least, ⟨h :: D, fun d hd => ?_, fun d hd => ?_, d3⟩, S.wF⟩
  · rcases List.mem_cons.mp hd with rfl | hd
    · exact S.hF.1.len
    · exact d1 d hd
  · rcases List.mem_cons.mp hd with rfl | hd
    · exact hl
    · exact d2 d hd
theorem SpK.inn {Ms : List (List Row)} {R F W : List Row} {h : Row} {k : Nat} {M : List Row} (S : SpK p n Ms R F W h k) (hM : Ms[k]? = some M) (hh : Spn p n F (dot h M)) : SpK p n Ms R F W h (k + 1) := by
  refine ⟨S.has, S.least, S.done, S.wF, S.hF, fun M' hM' => ?_⟩
  rw [List.take_add_one, hM] at hM'
  rcases List.mem_append.mp hM' with z | z
  · exact S.led M' z
  · have : M' = M := by simpa using z
    rw [this]
    exact hh
theorem SpK.out {Ms : List (List Row)} {R F W F2 : List Row} {h : Row} {k : Nat} {M : List Row} {ls : List Nat} (hp : 0 < p) (S : SpK p n Ms R F W h k) (wF : ∀ f ∈ F, f.length = n) (hM : Ms[k]? = some M) (h1 : ∀ r ∈ F2, Spn p n (F ++ [mixM p h M n]) (ent r)) (h2 : ∀ r ∈ F ++ [mixM p h M n], Spn p n F2 (ent r)) :
    SpK p n Ms R F2 (W ++ [mixM p h M n]) h (k + 1) := by
  have up : ∀ {v}, Spn p n F v → Spn p n F2 v := fun hv => hv.mono fun r hr => h2 r (List.mem_append_left _ hr)
  have ht : Spn p n F2 (ent (mixM p h M n)) := h2 _ (by simp)
  obtain ⟨D, d1, d2, d3⟩ := S.done
  refine ⟨fun r hr => up (S.has r hr), fun G lG hR hS r hr => ?_, ⟨D, d1, fun d hd M' hM' => up (d2 d hd M' hM'), fun r hr => ?_⟩, fun w hw => ?_, ⟨S.hF.1, up S.hF.2⟩, fun M' hM' => ?_⟩
  · have inG := S.least G lG hR hS
    refine (h1 r hr).mono fun x hx => ?_
    rcases List.mem_append.mp hx with z | z
    · exact inG x z
    · rw [List.mem_singleton.mp z]
      exact spn_mix_iff.mpr (spn_led_row lG (hS M (List.mem_of_getElem? hM)) S.hF.1.len (S.hF.2.mono inG))
  · refine (h1 r hr).mono fun x hx => ?_
    rcases List.mem_append.mp hx with z | z
    · refine (d3 x z).incl fun y hy => ?_
      rw [← List.append_assoc]
      exact List.mem_append_left _ hy
    · exact .mem (by rw [List.mem_singleton.mp z]; simp)
  · rcases List.mem_append.mp hw with z | z
    · exact ⟨(S.wF w z).1, up (S.wF w z).2⟩
    · rw [List.mem_singleton.mp z]
      exact ⟨mixM_wf hp, ht⟩
  · rw [List.take_add_one, hM] at hM'
    rcases List.mem_append.mp hM' with z | z
    · exact up (S.led M' z)
    · have : M' = M := by simpa using z
      rw [this]
      exact spn_mix_iff.mp ht
theorem SpW.fin {Ms : List (List Row)} {R F : List Row} {ls : List Nat} (S : SpW p n Ms R F []) (L : Low p n F ls) : Spin p n Ms R F ls := by
  obtain ⟨D, d1, d2, d3⟩ := S.done
  refine ⟨L, S.has, fun M hM r hr => ?_, S.least⟩
  have z := d3 r hr
  rw [List.append_nil] at z
  exact spn_led_row d1 (fun d hd => d2 d hd M hM) (L.wf r hr).len z
theorem SpW.full {Ms : List (List Row)} {R F W : List Row} {ls : List Nat} (hp : 2 ≤ p) (S : SpW p n Ms R F W) (L : Low p n F ls) (h : F.length = n) : Spin p n Ms R F ls :=
  ⟨L, S.has, fun M hM r hr => by rw [low_full hp L h]; exact spn_all hp _, S.least⟩
theorem low_grow (hp : 2 ≤ p) {F F2 : List Row} {ls ms : List Nat} (L : Low p n F ls) (L2 : Low p n F2 ms) {t : Row} (h2 : ∀ r ∈ F ++ [t], Spn p n F2 (ent r)) (ht : ¬ Spn p n F (ent t)) : F.length < F2.length := by
  have a := low_le hp L L2 fun r hr => h2 r (List.mem_append_left _ hr)
  refine Nat.lt_of_le_of_ne a fun e => ht ?_
  have := low_as_many hp L L2 (fun r hr => h2 r (List.mem_append_left _ hr)) e
  rw [this]
  exact h2 t (by simp)
/-- whether the tables lead a form's rows into its span -/
def stlB (p : Int) (n : Nat) (Ms : List (List Row)) (F : List Row) (ls : List Nat) : Bool := Ms.all fun M => F.all fun r => decide (mixM p (shr ls (mixM p r M n)) F n = mixM p r M n)
theorem stlB_iff (hp : 2 ≤ p) {Ms : List (List Row)} {F : List Row} {ls : List Nat} (L : Low p n F ls) : stlB p n Ms F ls = true ↔ Stl p n Ms F := by
  unfold stlB Stl
  rw [List.all_eq_true]
  refine ⟨fun h M hM r hr => ?_, fun h M hM => List.all_eq_true.mpr fun r hr => decide_eq_true ?_⟩
  · have := of_decide_eq_true (List.all_eq_true.mp (h M hM) r hr)
    exact spn_mix_iff.mp ((in_iff hp L (mixM_wf (by omega))).mp this)
  · exact (in_iff hp L (mixM_wf (by omega))).mpr (spn_mix_iff.mpr (h M hM r hr))
theorem low_take {F : List Row} {ls : List Nat} (L : Low p n F ls) (k : Nat) : Low p n (F.take k) (ls.take k) := by
  have key : ∀ {α : Type} {l : List α} {i : Nat} {x : α}, (l.take k)[i]? = some x → l[i]? = some x := fun {α l i x} h => by
    rw [List.getElem?_take] at h
    by_cases c : i < k
    · rw [if_pos c] at h
      exact h
    · rw [if_neg c] at h
      exact absurd h (by simp)
  exact ⟨fun r hr => L.wf r (List.mem_of_mem_take hr), ⟨by rw [List.length_take, List.length_take, L.dl.1], fun i j r l hi hj => L.dl.2 i j r l (key hi) (key hj)⟩, fun l hl => L.lt l (List.mem_of_mem_take hl), L.up.sublist (List.take_sublist _ _), fun i r l hi hj => L.zb i r l (key hi) (key hj)⟩
theorem low_drop {F : List Row} {ls : List Nat} (L : Low p n F ls) (k : Nat) : Low p n (F.drop k) (ls.drop k) := by
  refine ⟨fun r hr => L.wf r (List.mem_of_mem_drop hr), ⟨by rw [List.length_drop, List.length_drop, L.dl.1], fun i j r l hi hj => ?_⟩, fun l hl => L.lt l (List.mem_of_mem_drop hl), L.up.sublist (List.drop_sublist _ _), fun i r l hi hj => ?_⟩
  · rw [List.getElem?_drop] at hi hj
    rw [L.dl.2 _ _ r l hi hj]
    by_cases c : i = j
    · rw [if_pos c, if_pos (by omega)]
    · rw [if_neg c, if_neg (by omega)]
  · rw [List.getElem?_drop] at hi hj
    exact L.zb _ r l hi hj
theorem low_nil : Low p n [] [] := ⟨fun r hr => by simp at hr, ⟨rfl, fun i k r l h => by simp at h⟩, fun l hl => by simp at hl, .nil, fun i r l h => by simp at h⟩
end
section
variable {p : Int} {n : Nat}
/-- the rows to which a table leads some rows -/
def ldL (p : Int) (n : Nat) (F : List Row) (M : List Row) : List Row := F.map fun r => mixM p r M n
theorem ldL_len {F M : List Row} : (ldL p n F M).length = F.length := by unfold ldL; rw [List.length_map]
theorem lds_wf (hp : 0 < p) {Ms : List (List Row)} {F : List Row} : ∀ r ∈ Ms.flatMap (ldL p n F), Wf p n r := fun r hr => by
  obtain ⟨M, _, h⟩ := List.mem_flatMap.mp hr
  obtain ⟨f, _, rfl⟩ := List.mem_map.mp h
  exact mixM_wf hp
theorem lds_mem {Ms : List (List Row)} {F : List Row} {M : List Row} {r : Row} (hM : M ∈ Ms) (hr : r ∈ F) : mixM p r M n ∈ Ms.flatMap (ldL p n F) := List.mem_flatMap.mpr ⟨M, hM, List.mem_map.mpr ⟨r, hr, rfl⟩⟩
/-- the program's run: what came before -/
structure SpP (p : Int) (n : Nat) (Ms : List (List Row)) (R F B : List Row) : Prop where
  has : ∀ r ∈ R, Spn p n F (ent r)
  least : ∀ G : List Row, (∀ g ∈ G, g.length = n) → (∀ r ∈ R, Spn p n G (ent r)) → Stl p n Ms G → ∀ r ∈ F, Spn p n G (ent r)
  low : ∃ ls, Low p n B ls
  within : ∀ r ∈ B, Spn p n F (ent r)
  led : ∀ M ∈ Ms, ∀ r ∈ B, Spn p n F (dot r M)
theorem SpP.start {Ms : List (List Row)} {R F : List Row} (h1 : ∀ r ∈ R, Spn p n F (ent r)) (h2 : ∀ r ∈ F, Spn p n R (ent r)) : SpP p n Ms R F [] :=
  ⟨h1, fun G _ hR _ r hr => (h2 r hr).mono hR, ⟨[], low_nil⟩, fun r hr => by simp at hr, fun M _ r hr => by simp at hr⟩
theorem SpP.step {Ms : List (List Row)} {R F B F2 : List Row} {ls : List Nat} (S : SpP p n Ms R F B) (L : Low p n F ls) (h1 : ∀ r ∈ F2, Spn p n (F ++ Ms.flatMap (ldL p n F)) (ent r)) (h2 : ∀ r ∈ F ++ Ms.flatMap (ldL p n F), Spn p n F2 (ent r)) : SpP p n Ms R F2 F := by
  have up : ∀ {v}, Spn p n F v → Spn p n F2 v := fun hv => hv.mono fun r hr => h2 r (List.mem_append_left _ hr)
  refine ⟨fun r hr => up (S.has r hr), fun G lG hR hS r hr => ?_, ⟨ls, L⟩, fun r hr => h2 r (List.mem_append_left _ hr), fun M hM r hr => spn_mix_iff.mp (h2 _ (List.mem_append_right _ (lds_mem hM hr)))⟩
  have inG := S.least G lG hR hS
  refine (h1 r hr).mono fun x hx => ?_
  rcases List.mem_append.mp hx with z | z
  · exact inG x z
  · obtain ⟨M, hM, h⟩ := List.mem_flatMap.mp z
    obtain ⟨f, hf, rfl⟩ := List.mem_map.mp h
    exact spn_mix_iff.mpr (spn_led_row lG (hS M hM) (L.wf f hf).len (inG f hf))
theorem SpP.fin (hp : 2 ≤ p) {Ms : List (List Row)} {R F B : List Row} {ls : List Nat} (S : SpP p n Ms R F B) (L : Low p n F ls) (h : F.length ≤ B.length) : Spin p n Ms R F ls := by
  obtain ⟨ms, LB⟩ := S.low
  have e : B = F := low_as_many hp LB L S.within (Nat.le_antisymm (low_le hp LB L S.within) h)
  refine ⟨L, S.has, fun M hM r hr => ?_, S.least⟩
  refine S.led M hM r ?_
  rw [e]
  exact hr
theorem SpP.full (hp : 2 ≤ p) {Ms : List (List Row)} {R F B : List Row} {ls : List Nat} (S : SpP p n Ms R F B) (L : Low p n F ls) (h : F.length = n) : Spin p n Ms R F ls :=
  ⟨L, S.has, fun M hM r hr => by rw [low_full hp L h]; exact spn_all hp _, S.least⟩
end
section
theorem fmt_len {α β : Type} {f : α → List β} {k : Nat} {L : List α} (h : ∀ x ∈ L, (f x).length ≤ k) : (L.flatMap f).length ≤ L.length * k := by
  induction L with
  | nil => simp
  | cons x L ih =>
    rw [List.flatMap_cons, List.length_append, List.length_cons, Nat.succ_mul]
    have := h x List.mem_cons_self
    have := ih fun y hy => h y (List.mem_cons_of_mem _ hy)
    omega
end

def topS (i : Nat) : Stmt := PySem.Challenge.pw_stillspans_k16_least.main.body.getD i (.Pass ⟨0, 0, 0, 0⟩)
section
/-! The least polynomial of a table has at most the table's size as its degree. -/
variable {p : Int} {n : Nat} {A : Nat → Nat → Int}
def act (n : Nat) (v : Nat → Int) (M : Nat → Nat → Int) : Nat → Int := fun j => dsum n fun i => v i * M i j
theorem act_lin (c : Int) (u v : Nat → Int) (M : Nat → Nat → Int) (j : Nat) : act n (fun i => u i + c * v i) M j = act n u M j + c * act n v M j := by
  unfold act
  rw [← dsum_lin]
  exact dsum_congr n fun i _ => by grind
theorem act_cg {u v : Nat → Int} {M : Nat → Nat → Int} (h : ∀ i, i < n → cg p (u i) (v i)) (j : Nat) : cg p (act n u M j) (act n v M j) := dsum_cg n fun i hi => (h i hi).mul (cg.refl p _)
theorem act_act {u : Nat → Int} {a b j : Nat} (hj : j < n) : act n (act n u (pw n A a)) (pw n A b) j = act n u (pw n A (a + b)) j := by
  unfold act
  rw [dsum_congr (g := fun t => dsum n (fun i => u i * pw n A a i t * pw n A b t j)) n (fun t _ => by
    rw [Int.mul_comm, ← dsum_mul]
    exact dsum_congr n fun i _ => by grind)]
  rw [dsum_swap (fun i t => u i * pw n A a i t * pw n A b t j) n n]
  refine dsum_congr n fun i hi => ?_
  rw [pw_add A a b hi hj, ← dsum_mul]
  exact dsum_congr n fun t _ => by grind
theorem act_zero {u : Nat → Int} {j : Nat} (hj : j < n) : act n u (pw n A 0) j = u j := dsum_dr u hj
theorem act_ev {u g : Nat → Int} {L j : Nat} : act n u (ev n A g L) j = dsum L fun k => g k * act n u (pw n A k) j := by
  unfold act ev
  rw [dsum_congr (g := fun i => dsum L (fun k => g k * (u i * pw n A k i j))) n (fun i _ => by
    rw [← dsum_mul]
    exact dsum_congr L fun k _ => by grind)]
  rw [dsum_swap (fun k i => g k * (u i * pw n A k i j)) n L]
  exact dsum_congr L fun k _ => by rw [dsum_mul]
theorem act_cnv {u f g : Nat → Int} {L N j : Nat} (h : ∀ k, L ≤ k → g k = 0) (hj : j < n) : act n u (ev n A (cnvN N f g) (N + L)) j = act n (act n u (ev n A f N)) (ev n A g L) j := by
  unfold act
  rw [dsum_congr (g := fun i => dsum n (fun t => u i * ev n A f N i t * ev n A g L t j)) n (fun i hi => by
    rw [ev_cnv h hi hj N (Nat.le_refl _), ← dsum_mul]
    exact dsum_congr n fun t _ => by grind)]
  rw [← dsum_swap (fun i t => u i * ev n A f N i t * ev n A g L t j) n n]
  refine dsum_congr n fun t _ => ?_
  rw [Int.mul_comm (dsum n _), ← dsum_mul]
  exact dsum_congr n fun i _ => by grind
/-- a polynomial of degree d with 1 as its last number -/
def Mo (f : Nat → Int) (d : Nat) : Prop := f d = 1 ∧ ∀ k, d < k → f k = 0
theorem cnv_high {f g : Nat → Int} {e : Nat} (G : ∀ k, e < k → g k = 0) : ∀ N k, N + e ≤ k → cnvN N f g k = 0
  | 0, _, _ => rfl
  | N + 1, k, h => by
    show cnvN N f g k + f N * shf N g k = 0
    rw [cnv_high G N k (by omega)]
    unfold shf
    rw [if_pos (by omega), G (k - N) (by omega)]
    omega
theorem mo_cnv {f g : Nat → Int} {d e : Nat} (F : Mo f d) (G : Mo g e) : Mo (cnvN (d + 1) f g) (d + e) := by
  refine ⟨?_, fun k hk => cnv_high G.2 (d + 1) k (by omega)⟩
  show cnvN d f g (d + e) + f d * shf d g (d + e) = 1
  rw [cnv_high G.2 d (d + e) (Nat.le_refl _)]
  unfold shf
  rw [if_pos (by omega), Nat.add_sub_cancel_left, F.1, G.1]
  rfl
theorem spn_sum {F : List Row} {g : Nat → Int} {o : Nat → Nat → Int} : ∀ L, (∀ k, k < L → Spn p n F (o k)) → Spn p n F (fun j => dsum L fun k => g k * o k j)
  | 0, _ => .zero fun _ _ => cg.refl _ _
  | L + 1, h => by
    have a := spn_sum (g := g) L fun k hk => h k (by omega)
    exact (a.lin (g L) (h L (by omega))).cong fun j _ => cg.refl _ _
/-- what the table leads a span's rows to is in it -/
theorem still_pw {F : List Row} (st : ∀ v, Spn p n F v → Spn p n F (act n v A)) : ∀ k v, Spn p n F v → Spn p n F (act n v (pw n A k))
  | 0, v, h => h.cong fun j hj => cg.of_eq (act_zero hj)
  | k + 1, v, h => by
    have a := st _ (still_pw st k v h)
    refine a.cong fun j hj => cg.of_eq ?_
    show dsum n (fun i => v i * dsum n (fun t => pw n A k i t * A t j)) = dsum n (fun t => dsum n (fun i => v i * pw n A k i t) * A t j)
    rw [dsum_congr (g := fun t => dsum n (fun i => v i * pw n A k i t * A t j)) (f := fun t => dsum n (fun i => v i * pw n A k i t) * A t j) n (fun t _ => by
      rw [Int.mul_comm, ← dsum_mul]
      exact dsum_congr n fun i _ => by grind)]
    rw [dsum_swap (fun i t => v i * pw n A k i t * A t j) n n]
    refine dsum_congr n fun i _ => ?_
    rw [← dsum_mul]
    exact dsum_congr n fun t _ => by grind
theorem still_ev {F : List Row} (st : ∀ v, Spn p n F v → Spn p n F (act n v A)) {g : Nat → Int} {L : Nat} {v : Nat → Int} (h : Spn p n F v) : Spn p n F (act n v (ev n A g L)) :=
  (spn_sum (g := g) L fun k _ => still_pw st k v h).cong fun j _ => cg.of_eq act_ev
theorem pw_succ_act {v : Nat → Int} {k j : Nat} (hj : j < n) : act n (act n v (pw n A k)) A j = act n v (pw n A (k + 1)) j := by
  show dsum n (fun t => dsum n (fun i => v i * pw n A k i t) * A t j) = dsum n (fun i => v i * dsum n (fun t => pw n A k i t * A t j))
  rw [dsum_congr (g := fun t => dsum n (fun i => v i * pw n A k i t * A t j)) (f := fun t => dsum n (fun i => v i * pw n A k i t) * A t j) n (fun t _ => by
    rw [Int.mul_comm, ← dsum_mul]
    exact dsum_congr n fun i _ => by grind)]
  rw [dsum_swap (fun i t => v i * pw n A k i t * A t j) n n]
  refine dsum_congr n fun i _ => ?_
  rw [← dsum_mul]
  exact dsum_congr n fun t _ => by grind
/-- a row, as one of rests -/
def rowOf (p : Int) (n : Nat) (v : Nat → Int) : Row := (List.range n).map fun j => v j % p
theorem rowOf_wf (hp : 0 < p) (v : Nat → Int) : Wf p n (rowOf p n v) := ⟨by unfold rowOf; rw [List.length_map, List.length_range], fun x hx => by
  obtain ⟨j, _, rfl⟩ := List.mem_map.mp hx
  exact ⟨Int.emod_nonneg _ (by omega), Int.emod_lt_of_pos _ hp⟩⟩
theorem rowOf_cg (v : Nat → Int) {j : Nat} (hj : j < n) : cg p (ent (rowOf p n v) j) (v j) := by
  unfold rowOf
  rw [ent_map hj]
  exact cg.emod _ _
theorem spn_rowOf {G : List Row} {v : Nat → Int} : Spn p n G (ent (rowOf p n v)) ↔ Spn p n G v :=
  ⟨fun h => h.cong fun j hj => (rowOf_cg v hj).symm, fun h => h.cong fun j hj => rowOf_cg v hj⟩
/-- the span of F and the first e rows of v's run -/
structure Cyc (p : Int) (n : Nat) (A : Nat → Nat → Int) (F : List Row) (v : Nat → Int) (e : Nat) (G : List Row) (ms : List Nat) : Prop where
  low : Low p n G ms
  sub : ∀ r ∈ F, Spn p n G (ent r)
  run : ∀ i, i < e → Spn p n G (act n v (pw n A i))
  dec : ∀ u, Spn p n G u → ∃ b : Nat → Int, Spn p n F (fun j => u j - dsum e fun i => b i * act n v (pw n A i) j)
  len : F.length + e ≤ G.length
theorem cyc_step (hp : 2 ≤ p) {inv : Int → Int} (hv : InvOk p inv) {F G : List Row} {v : Nat → Int} {e : Nat} {ms : List Nat} (C : Cyc p n A F v e G ms) (h : ¬ Spn p n G (act n v (pw n A e))) : ∃ G' ms', Cyc p n A F v (e + 1) G' ms' := by
  have w : ∀ r ∈ G ++ [rowOf p n (act n v (pw n A e))], Wf p n r := fun r hr => by
    rcases List.mem_append.mp hr with z | z
    · exact C.low.wf r z
    · rw [List.mem_singleton.mp z]
      exact rowOf_wf (by omega) _
  obtain ⟨ms', L', f1, f2⟩ := lowM_ok hp hv w
  have up : ∀ {u}, Spn p n G u → Spn p n (lowM p inv (G ++ [rowOf p n (act n v (pw n A e))])) u := fun hu => hu.mono fun r hr => f2 r (List.mem_append_left _ hr)
  have ho : Spn p n (lowM p inv (G ++ [rowOf p n (act n v (pw n A e))])) (act n v (pw n A e)) := spn_rowOf.mp (f2 _ (by simp))
  have g := low_grow hp C.low L' f2 (fun z => h (spn_rowOf.mp z))
  refine ⟨_, ms', L', fun r hr => up (C.sub r hr), fun i hi => ?_, fun u hu => ?_, by have := C.len; omega⟩
  · by_cases c : i < e
    · exact up (C.run i c)
    · rw [show i = e by omega]
      exact ho
  · have key : ∀ u, Spn p n (G ++ [rowOf p n (act n v (pw n A e))]) u → ∃ c : Int, Spn p n G (fun j => u j - c * act n v (pw n A e) j) := fun u hu => by
      induction hu with
      | zero z => exact ⟨0, .zero fun j hj => (cg.of_eq (by omega)).trans (z j hj)⟩
      | @add u w r c hr hu ew ih =>
        obtain ⟨c0, ih⟩ := ih
        rcases List.mem_append.mp hr with z | z
        · refine ⟨c0, (ih.lin c (.mem z)).cong fun j hj => ?_⟩
          exact ((ew j hj).sub (cg.refl p _)).trans (cg.of_eq (by grind))
        · rw [List.mem_singleton.mp z] at ew
          refine ⟨c0 + c, ih.cong fun j hj => ?_⟩
          have q := (ew j hj).trans ((cg.refl p _).add ((cg.refl p c).mul (rowOf_cg _ hj)))
          exact (q.sub (cg.refl p _)).trans (cg.of_eq (by grind))
    obtain ⟨c, hc⟩ := key u (hu.mono f1)
    obtain ⟨b, hb⟩ := C.dec _ hc
    refine ⟨fun i => if i = e then c else b i, hb.cong fun j _ => cg.of_eq ?_⟩
    show u j - (dsum e (fun i => (if i = e then c else b i) * act n v (pw n A i) j) + (if e = e then c else b e) * act n v (pw n A e) j) = _
    rw [if_pos rfl, dsum_congr (g := fun i => b i * act n v (pw n A i) j) e (fun i hi => by rw [if_neg (by omega)])]
    grind
/-- the run comes to lie in the span -/
theorem cyc_end (hp : 2 ≤ p) {inv : Int → Int} (hv : InvOk p inv) {F : List Row} {v : Nat → Int} : ∀ (m e : Nat) (G : List Row) (ms : List Nat), n - G.length ≤ m → Cyc p n A F v e G ms → ∃ e' G' ms', e ≤ e' ∧ Cyc p n A F v e' G' ms' ∧ Spn p n G' (act n v (pw n A e'))
  | m, e, G, ms, hm, C => by
    by_cases h : Spn p n G (act n v (pw n A e))
    · exact ⟨e, G, ms, Nat.le_refl _, C, h⟩
    · obtain ⟨G', ms', C'⟩ := cyc_step hp hv C h
      have few := low_few C'.low
      have l1 := C'.len
      have l2 : G.length < G'.length := by
        have h1 : ∀ r ∈ G, Spn p n G' (ent r) := fun r hr => by
          obtain ⟨b, hb⟩ := C.dec _ (.mem hr)
          have s1 : Spn p n G' (fun j => ent r j - dsum e fun i => b i * act n v (pw n A i) j) := hb.mono C'.sub
          have s2 := spn_sum (F := G') (g := b) (o := fun i => act n v (pw n A i)) e fun k hk => C'.run k (by omega)
          exact (s1.lin 1 s2).cong fun j _ => cg.of_eq (by grind)
        have a := low_le hp C.low C'.low h1
        refine Nat.lt_of_le_of_ne a fun z => h ?_
        rw [low_as_many hp C.low C'.low h1 z]
        exact C'.run e (by omega)
      match m with
      | 0 => exact absurd few (by omega)
      | m + 1 =>
        obtain ⟨e', G2, ms2, h1, h2, h3⟩ := cyc_end hp hv m (e + 1) G' ms' (by omega) C'
        exact ⟨e', G2, ms2, by omega, h2, h3⟩
theorem kill (hp : 2 ≤ p) {inv : Int → Int} (hv : InvOk p inv) : ∀ (m : Nat) (F : List Row) (ls : List Nat), Low p n F ls → (∀ v, Spn p n F v → Spn p n F (act n v A)) → n - F.length ≤ m → ∃ d f, d + F.length ≤ n ∧ Mo f d ∧ ∀ u, Spn p n F (act n u (ev n A f (d + 1)))
  | m, F, ls, L, st, hm => by
    have few := low_few L
    by_cases hall : ∀ v, Spn p n F v
    · refine ⟨0, fun k => if k = 0 then 1 else 0, by omega, ⟨rfl, fun k hk => if_neg (by omega)⟩, fun u => hall _⟩
    obtain ⟨v, hv0⟩ : ∃ v, ¬ Spn p n F v := Classical.byContradiction fun z => hall fun v => Classical.byContradiction fun y => z ⟨v, y⟩
    have C0 : Cyc p n A F v 0 F ls := ⟨L, fun r hr => .mem hr, fun i hi => by omega, fun u hu => ⟨fun _ => 0, hu.cong fun j _ => cg.of_eq (by show u j - 0 = u j; omega)⟩, by omega⟩
    have h0 : ¬ Spn p n F (act n v (pw n A 0)) := fun z => hv0 (z.cong fun j hj => cg.of_eq (act_zero hj).symm)
    obtain ⟨G1, ms1, C1⟩ := cyc_step hp hv C0 h0
    obtain ⟨e, G, ms, he, C, hin⟩ := cyc_end hp hv n 1 G1 ms1 (by omega) C1
    have lG := C.len
    have fG := low_few C.low
    -- the larger span is still
    have stG : ∀ u, Spn p n G u → Spn p n G (act n u A) := fun u hu => by
      obtain ⟨b, hb⟩ := C.dec u hu
      have s1 := (st _ hb).mono C.sub
      have s2 := spn_sum (F := G) (g := b) (o := fun i => act n v (pw n A (i + 1))) e fun k hk => by
        by_cases c : k + 1 < e
        · exact C.run _ c
        · rw [show k + 1 = e by omega]
          exact hin
      refine (s1.lin 1 s2).cong fun j hj => cg.of_eq ?_
      have e1 : act n (fun j => u j - dsum e fun i => b i * act n v (pw n A i) j) A j = act n u A j - dsum e (fun i => b i * act n v (pw n A (i + 1)) j) := by
        have q := act_lin (n := n) (-1) u (fun j => dsum e fun i => b i * act n v (pw n A i) j) A j
        have q2 : act n (fun j => dsum e fun i => b i * act n v (pw n A i) j) A j = dsum e (fun i => b i * act n v (pw n A (i + 1)) j) := by
          show dsum n (fun t => dsum e (fun i => b i * act n v (pw n A i) t) * A t j) = _
          rw [dsum_congr (g := fun t => dsum e (fun i => b i * (act n v (pw n A i) t * A t j))) n (fun t _ => by
            rw [Int.mul_comm, ← dsum_mul]
            exact dsum_congr e fun i _ => by grind)]
          rw [dsum_swap (fun i t => b i * (act n v (pw n A i) t * A t j)) n e]
          refine dsum_congr e fun i _ => ?_
          rw [dsum_mul]
          congr 1
          exact pw_succ_act hj
        rw [← q2]
        rw [show (fun j => u j - dsum e fun i => b i * act n v (pw n A i) j) = fun j => u j + -1 * dsum e fun i => b i * act n v (pw n A i) j from by funext j; omega, q]
        omega
      rw [e1]
      omega
    match m with
    | 0 => exact absurd fG (by omega)
    | m + 1 =>
      obtain ⟨d, f, hd, Fm, hf⟩ := kill hp hv m G ms C.low stG (by omega)
      obtain ⟨b, hb⟩ := C.dec _ hin
      obtain ⟨g, eg⟩ : ∃ g : Nat → Int, g = fun k => if k = e then 1 else if k < e then - b k else 0 := ⟨_, rfl⟩
      have Gm : Mo g e := by
        rw [eg]
        exact ⟨if_pos rfl, fun k hk => by show (if k = e then (1 : Int) else if k < e then - b k else 0) = 0; rw [if_neg (by omega), if_neg (by omega)]⟩
      have hg : Spn p n F (act n v (ev n A g (e + 1))) := by
        refine hb.cong fun j _ => cg.of_eq ?_
        rw [act_ev]
        show dsum e (fun k => g k * act n v (pw n A k) j) + g e * act n v (pw n A e) j = _
        rw [Gm.1, dsum_congr (g := fun k => -1 * (b k * act n v (pw n A k) j)) e (fun k hk => by
          rw [eg]
          show (if k = e then (1 : Int) else if k < e then - b k else 0) * _ = _
          rw [if_neg (by omega), if_pos hk]
          grind), dsum_mul]
        omega
      -- the polynomial leads the larger span into the lesser
      have key : ∀ u, Spn p n G u → Spn p n F (act n u (ev n A g (e + 1))) := fun u hu => by
        obtain ⟨b2, hb2⟩ := C.dec u hu
        have s1 := still_ev st (g := g) (L := e + 1) hb2
        have s2 := spn_sum (F := F) (g := b2) (o := fun i => act n (act n v (pw n A i)) (ev n A g (e + 1))) e fun k _ => by
          refine (still_pw st k _ hg).cong fun j hj => cg.of_eq ?_
          rw [act_ev]
          rw [dsum_congr (g := fun m => g m * act n v (pw n A (k + m)) j) (e + 1) (fun m _ => by rw [act_act hj])]
          have q3 : act n (act n v (ev n A g (e + 1))) (pw n A k) j = dsum (e + 1) (fun m => g m * act n (act n v (pw n A m)) (pw n A k) j) := by
            show dsum n (fun t => act n v (ev n A g (e + 1)) t * pw n A k t j) = _
            rw [dsum_congr (g := fun t => dsum (e + 1) (fun m => g m * (act n v (pw n A m) t * pw n A k t j))) n (fun t _ => by
              rw [act_ev, Int.mul_comm, ← dsum_mul]
              exact dsum_congr (e + 1) fun m _ => by grind)]
            rw [dsum_swap (fun m t => g m * (act n v (pw n A m) t * pw n A k t j)) n (e + 1)]
            refine dsum_congr (e + 1) fun m _ => ?_
            rw [dsum_mul]
            rfl
          rw [q3]
          refine dsum_congr (e + 1) fun m _ => ?_
          rw [act_act hj, Nat.add_comm]
        refine (s1.lin 1 s2).cong fun j hj => cg.of_eq ?_
        have q := act_lin (n := n) (-1) u (fun j => dsum e fun i => b2 i * act n v (pw n A i) j) (ev n A g (e + 1)) j
        have q2 : act n (fun j => dsum e fun i => b2 i * act n v (pw n A i) j) (ev n A g (e + 1)) j = dsum e (fun i => b2 i * act n (act n v (pw n A i)) (ev n A g (e + 1)) j) := by
          show dsum n (fun t => dsum e (fun i => b2 i * act n v (pw n A i) t) * ev n A g (e + 1) t j) = _
          rw [dsum_congr (g := fun t => dsum e (fun i => b2 i * (act n v (pw n A i) t * ev n A g (e + 1) t j))) n (fun t _ => by
            rw [Int.mul_comm, ← dsum_mul]
            exact dsum_congr e fun i _ => by grind)]
          rw [dsum_swap (fun i t => b2 i * (act n v (pw n A i) t * ev n A g (e + 1) t j)) n e]
          refine dsum_congr e fun i _ => ?_
          rw [dsum_mul]
          rfl
        rw [show (fun j => u j - dsum e fun i => b2 i * act n v (pw n A i) j) = fun j => u j + -1 * dsum e fun i => b2 i * act n v (pw n A i) j from by funext j; omega, q, q2]
        omega
      refine ⟨d + e, cnvN (d + 1) f g, by omega, mo_cnv Fm Gm, fun u => ?_⟩
      refine (key _ (hf u)).cong fun j hj => cg.of_eq ?_
      rw [← act_cnv (fun k hk => Gm.2 k (by omega)) hj]
      rw [show d + 1 + (e + 1) = (d + e + 1) + 1 by omega]
      unfold act
      refine dsum_congr n fun i _ => ?_
      have q := ev_more (n := n) (A := A) (g := cnvN (d + 1) f g) (L := d + e + 1) (fun k hk => (mo_cnv Fm Gm).2 k (by omega)) 1 (i := i) (j := j)
      rw [q]
end

section
/-! The least mixture of a run of rows that is nought. -/
variable {p : Int} {n : Nat}
def runL (r : Nat → Row) (m : Nat) : List Row := (List.range m).map r
theorem runL_len {r : Nat → Row} {m : Nat} : (runL r m).length = m := by unfold runL; rw [List.length_map, List.length_range]
theorem runL_succ {r : Nat → Row} {m : Nat} : runL r (m + 1) = runL r m ++ [r m] := by unfold runL; rw [List.range_succ, List.map_append]; rfl
theorem runL_get {r : Nat → Row} {m i : Nat} (h : i < m) : (runL r m)[i]? = some (r i) := by unfold runL; rw [List.getElem?_map, List.getElem?_range h]; rfl
theorem runL_take {r : Nat → Row} {m k : Nat} (h : k ≤ m) : (runL r m).take k = runL r k := by
  unfold runL
  rw [← List.map_take, List.take_range, Nat.min_eq_left h]
theorem runL_wf {r : Nat → Row} (h : ∀ k, Wf p n (r k)) (m : Nat) : Wfs p n (runL r m) := fun x hx => by
  obtain ⟨k, _, rfl⟩ := List.mem_map.mp hx
  exact h k
structure Lst (p : Int) (n : Nat) (r : Nat → Row) (m : Nat) (f : Row) : Prop where
  len : f.length = m + 1
  pol : Pol p f
  one : ent f m = 1
  zero : mixM p f (runL r (m + 1)) n = zeros n
  free : (lowM p (invM p) (runL r m)).length = m
theorem dotv_app {u v : List Int} {R S : List Row} {j : Nat} : u.length = R.length → dot (u ++ v) (R ++ S) j = dot u R j + dot v S j := by
  induction u generalizing R with
  | nil =>
    intro h
    cases R with
    | nil => show dot v S j = 0 + dot v S j; omega
    | cons _ _ => simp at h
  | cons x u ih =>
    intro h
    cases R with
    | nil => simp at h
    | cons y R =>
      show x * ent y j + dot (u ++ v) (R ++ S) j = x * ent y j + dot u R j + dot v S j
      rw [ih (by simpa using h)]
      omega
theorem dot_scale {c : Int} : ∀ {u : List Int} {R : List Row} {j : Nat}, cg p (dot (mulR p c u) R j) (c * dot u R j)
  | [], R, j => cg.of_eq (by show (0 : Int) = c * 0; omega)
  | x :: u, [], j => cg.of_eq (by show (0 : Int) = c * 0; omega)
  | x :: u, y :: R, j => by
    have e := dot_scale (c := c) (u := u) (R := R) (j := j)
    have e1 : cg p ((c * x % p) * ent y j) (c * x * ent y j) := (cg.emod p _).mul (cg.refl p _)
    show cg p ((c * x % p) * ent y j + dot (mulR p c u) R j) (c * (x * ent y j + dot u R j))
    exact (e1.add e).trans (cg.of_eq (by grind))
theorem mix_zero_iff (hp : 0 < p) {u : List Int} {R : List Row} : mixM p u R n = zeros n ↔ ∀ j, j < n → cg p (dot u R j) 0 := by
  constructor
  · intro h j hj
    have e := mixM_ent (p := p) (cs := u) (rows := R) hj
    rw [h, zeros_ent] at e
    exact (cg.emod p _).symm.trans (cg.of_eq e.symm)
  · intro h
    refine row_ext (mixM_wf hp) (zeros_wf hp) fun j hj => ?_
    rw [mixM_ent hj, zeros_ent]
    exact (cg.emod _ _).trans (h j hj)
/-- the first run with a mixture that is nought -/
theorem lst_of (h5 : P5 p) {r : Nat → Row} (hr : ∀ k, Wf p n (r k)) {m : Nat} {N : List Row} (nN : N ≠ []) (hN : Nought p (invM p) n (runL r (m + 1)) N) (fr : (lowM p (invM p) (runL r m)).length = m) : ∃ x, N[0]? = some x ∧ x.length = m + 1 ∧ Pol p x ∧ Lst p n r m (mon p x) := by
  have two := h5.two
  have hv := inv_is h5
  obtain ⟨ls, L⟩ := hN.low
  obtain ⟨x, hx⟩ := get_of (l := N) (i := 0) (List.length_pos_iff.mpr nN)
  have mx := List.mem_of_getElem? hx
  have wx := L.wf x mx
  have lx : x.length = m + 1 := by rw [wx.len, runL_len]
  have zx := (mix_zero_iff (by omega)).mp (hN.zero x mx)
  -- the last number isn't 0
  have last : ent x m ≠ 0 := fun e => by
    have ex : x = x.take m ++ [0] := by
      refine List.ext_getElem? fun i => ?_
      by_cases c : i < m
      · rw [List.getElem?_append_left (by rw [List.length_take]; omega), List.getElem?_take, if_pos c]
      · by_cases c2 : i = m
        · subst c2
          rw [List.getElem?_append_right (by rw [List.length_take]; omega), List.length_take, Nat.min_eq_left (by omega), Nat.sub_self, ent_some (by omega), e]
          rfl
        · rw [List.getElem?_eq_none (by omega), List.getElem?_eq_none (by rw [List.length_append, List.length_take, List.length_singleton]; omega)]
    have wt : Wf p (runL r m).length (x.take m) := ⟨by rw [List.length_take, runL_len]; omega, fun y hy => wx.rng y (List.mem_of_mem_take hy)⟩
    have z2 : ∀ j, j < n → cg p (dot (x.take m) (runL r m) j) 0 := fun j hj => by
      have q := zx j hj
      rw [ex, runL_succ, dotv_app (by rw [List.length_take, runL_len]; omega)] at q
      exact (cg.of_eq (by show dot (x.take m) (runL r m) j = dot (x.take m) (runL r m) j + (0 * ent (r m) j + 0); omega)).trans q
    obtain ⟨ls0, L0, _⟩ := lowM_ok two hv (trM_wf (runL_wf hr m) (n := n))
    have N0 := nought_ok two hv (runL_wf hr m) L0
    have l0 := N0.len
    rw [fr] at l0
    have hl := runL_len (r := r) (m := m)
    have n0 : acM p (invM p) (runL r m).length (lowM p (invM p) (trM n (runL r m))) ls0 = [] := List.length_eq_zero_iff.mp (by omega)
    have s0 := N0.all _ wt ((mix_zero_iff (by omega)).mpr z2)
    rw [n0] at s0
    have zz : Z p (runL r m).length (ent (x.take m)) := by
      cases s0 with
      | zero h => exact h
      | add c hr _ _ => simp at hr
    obtain ⟨l, hl, ln, lz, l1⟩ := low_ne L hx
    rw [runL_len] at ln
    have hlm : l < m := by
      refine Nat.lt_of_le_of_ne (by omega) fun q => ?_
      rw [q, e] at l1
      omega
    have q := zz l (by rw [runL_len]; exact hlm)
    have e2 : ent (x.take m) l = 1 := by
      rw [← l1]
      unfold ent
      rw [List.getD_eq_getElem?_getD, List.getD_eq_getElem?_getD, List.getElem?_take, if_pos hlm]
    rw [e2] at q
    exact one_ne two q
  have px : Pol p x := ⟨wx.rng, fun _ => by rw [lx]; exact last⟩
  have xn : x ≠ [] := fun e => by rw [e] at lx; simp at lx
  refine ⟨x, hx, lx, px, by rw [mon_len, lx], mon_pol h5 px, ?_, ?_, fr⟩
  · have := mon_last h5 px xn
    rw [lx] at this
    exact this
  · refine (mix_zero_iff (by omega)).mpr fun j hj => ?_
    rw [mon_of xn]
    exact dot_scale.trans (((cg.refl p _).mul (zx j hj)).trans (cg.of_eq (by omega)))
/-- no such mixture: the run is free -/
theorem free_of {inv : Int → Int} {r : Nat → Row} {m : Nat} (hN : Nought p inv n (runL r (m + 1)) []) : (lowM p inv (runL r (m + 1))).length = m + 1 := by
  have := hN.len
  rw [runL_len] at this
  simpa using this
/-- a free run is no longer than where a row is a mixture of those ahead -/
theorem free_le (hp : 2 ≤ p) {inv : Int → Int} (hv : InvOk p inv) {r : Nat → Row} (hr : ∀ k, Wf p n (r k)) {m d : Nat} (fr : (lowM p inv (runL r m)).length = m) (h : Spn p n (runL r d) (ent (r d))) : m ≤ d := by
  refine Nat.le_of_not_lt fun hd => ?_
  have w2 : ∀ x ∈ (runL r m).eraseIdx d, Wf p n x := fun x hx => runL_wf hr m x (List.mem_of_mem_eraseIdx hx)
  have inE : ∀ k, k < m → k ≠ d → r k ∈ (runL r m).eraseIdx d := fun k hk hne => by
    refine List.mem_eraseIdx_iff_getElem?.mpr ⟨k, hne, runL_get hk⟩
  have sub : ∀ x ∈ runL r m, Spn p n ((runL r m).eraseIdx d) (ent x) := fun x hx => by
    obtain ⟨k, hk, rfl⟩ := List.mem_map.mp hx
    have hk := List.mem_range.mp hk
    by_cases c : k = d
    · subst c
      refine h.incl fun y hy => ?_
      obtain ⟨i, hi, rfl⟩ := List.mem_map.mp hy
      have hi := List.mem_range.mp hi
      exact inE i (by omega) (by omega)
    · exact .mem (inE k hk c)
  have a := lowM_sub hp hv (runL_wf hr m) w2 sub
  have b := lowM_le (p := p) (inv := inv) ((runL r m).eraseIdx d)
  rw [List.length_eraseIdx, runL_len, if_pos hd] at b
  omega
theorem free_few (hp : 2 ≤ p) {inv : Int → Int} (hv : InvOk p inv) {r : Nat → Row} (hr : ∀ k, Wf p n (r k)) {m : Nat} (fr : (lowM p inv (runL r m)).length = m) : m ≤ n := by
  have := lowM_few hp hv (runL_wf hr m)
  omega
/-! a table written as a row -/
theorem ent_flat : ∀ {M : List Row} {i j : Nat}, (∀ r ∈ M, r.length = n) → i < M.length → j < n → ent M.flatten (i * n + j) = el M i j
  | [], i, j, _, hi, _ => by simp at hi
  | r :: M, 0, j, h, _, hj => by
    have l := h r List.mem_cons_self
    show ent (r ++ M.flatten) (0 * n + j) = ent r j
    unfold ent
    rw [List.getD_eq_getElem?_getD, List.getElem?_append_left (by omega), List.getD_eq_getElem?_getD, Nat.zero_mul, Nat.zero_add]
  | r :: M, i + 1, j, h, hi, hj => by
    have l := h r List.mem_cons_self
    have e := ent_flat (M := M) (i := i) (j := j) (fun x hx => h x (List.mem_cons_of_mem _ hx)) (by simpa using hi) hj
    have e2 : (i + 1) * n + j = n + (i * n + j) := by rw [Nat.succ_mul]; omega
    show ent (r ++ M.flatten) ((i + 1) * n + j) = el M i j
    rw [← e, e2]
    unfold ent
    rw [List.getD_eq_getElem?_getD, List.getElem?_append_right (by omega), l, Nat.add_sub_cancel_left, List.getD_eq_getElem?_getD]
theorem flat_len : ∀ {M : List Row}, (∀ r ∈ M, r.length = n) → M.flatten.length = M.length * n
  | [], _ => by simp
  | r :: M, h => by
    rw [List.flatten_cons, List.length_append, h r List.mem_cons_self, flat_len (M := M) fun x hx => h x (List.mem_cons_of_mem _ hx), List.length_cons, Nat.succ_mul]
    omega
theorem flat_wf {M : List Row} {k : Nat} (l : M.length = k) (w : Wfs p n M) : Wf p (k * n) M.flatten := ⟨by rw [flat_len fun r hr => (w r hr).len, l], fun x hx => by
  obtain ⟨r, hr, hm⟩ := List.mem_flatten.mp hx
  exact (w r hr).rng x hm⟩
/-- the powers as rows -/
def flP (p : Int) (n : Nat) (A : List Row) (k : Nat) : Row := (powM p n A k).flatten
theorem flP_wf (hp : 0 < p) {A : List Row} (k : Nat) : Wf p (n * n) (flP p n A k) := flat_wf pow_len (pow_wf hp)
theorem least_deg (h5 : P5 p) {A : List Row} (n0 : 0 < n) {m : Nat} (fr : (lowM p (invM p) (runL (flP p n A) m)).length = m) : m ≤ n := by
  have two := h5.two
  have hv := inv_is h5
  obtain ⟨d, f, hd, F, hf⟩ := kill (A := el A) two hv n [] [] low_nil (fun v hv0 => by
    cases hv0 with
    | zero z => exact .zero fun j hj => (act_cg (p := p) (v := fun _ => 0) z j).trans (cg.of_eq (by
        show dsum n (fun i => 0 * el A i j) = 0
        rw [dsum_congr (g := fun _ => 0) n (fun i _ => by omega), dsum_zero]))
    | add c hr _ _ => simp at hr) (by simp)
  have z : ∀ i j, i < n → j < n → cg p (ev n (el A) f (d + 1) i j) 0 := fun i j hi hj => by
    have q := hf (fun t => if i = t then 1 else 0)
    cases q with
    | zero z =>
      have q := z j hj
      have e : act n (fun t => if i = t then 1 else 0) (ev n (el A) f (d + 1)) j = ev n (el A) f (d + 1) i j := dsum_dl (fun t => ev n (el A) f (d + 1) t j) hi
      rw [e] at q
      exact q
    | add c hr _ _ => simp at hr
  refine Nat.le_trans (free_le two hv (flP_wf (by omega)) fr (d := d) ?_) (by simpa using hd)
  have s := spn_sum (p := p) (n := n * n) (F := runL (flP p n A) d) (g := fun k => - f k) (o := fun k => ent (flP p n A k)) d fun k hk => .mem (List.mem_map.mpr ⟨k, List.mem_range.mpr hk, rfl⟩)
  refine s.cong fun q hq => ?_
  have hi : q / n < n := Nat.div_lt_of_lt_mul hq
  have hj : q % n < n := Nat.mod_lt _ n0
  have eq : q = q / n * n + q % n := by rw [Nat.mul_comm]; exact (Nat.div_add_mod q n).symm
  have ek : ∀ k, cg p (ent (flP p n A k) q) (pw n (el A) k (q / n) (q % n)) := fun k => by
    have e : ent (flP p n A k) q = el (powM p n A k) (q / n) (q % n) := by
      have e1 := ent_flat (n := n) (M := powM p n A k) (i := q / n) (j := q % n) (fun r hr => (pow_wf (by omega) r hr).len) (by rw [pow_len]; exact hi) hj
      rw [← eq] at e1
      exact e1
    rw [e]
    exact tabM_el hi hj
  have zz := z (q / n) (q % n) hi hj
  unfold ev at zz
  have zz : cg p (dsum d (fun k => f k * pw n (el A) k (q / n) (q % n)) + f d * pw n (el A) d (q / n) (q % n)) 0 := zz
  rw [F.1] at zz
  refine (ek d).trans ?_
  have s2 : cg p (dsum d fun k => - f k * ent (flP p n A k) q) (dsum d fun k => -1 * (f k * pw n (el A) k (q / n) (q % n))) := dsum_cg d fun k _ => ((cg.refl p _).mul (ek k)).trans (cg.of_eq (by grind))
  refine cg.trans ?_ s2.symm
  rw [dsum_mul]
  have := zz.sub (cg.refl p (dsum d (fun k => f k * pw n (el A) k (q / n) (q % n))))
  exact (cg.of_eq (by omega)).trans (this.trans (cg.of_eq (by omega)))
/-- what a table leads a row to, again and again -/
def orb (p : Int) (n : Nat) (A : List Row) (v : Row) : Nat → Row
  | 0 => v
  | k + 1 => mixM p (orb p n A v k) A n
theorem orb_wf (hp : 0 < p) {A : List Row} {v : Row} (wv : Wf p n v) : ∀ k, Wf p n (orb p n A v k)
  | 0 => wv
  | _ + 1 => mixM_wf hp
theorem tabWo {H : Hp} {D z : Addr} {qs : List Addr} {F : List Row} (t : Tab H z qs F) (h : z ≠ D) (h2 : ∀ q ∈ qs, q ≠ D) : Tab (My.wo D H) z qs F :=
  ⟨(wo_ne h).trans t.at_, t.len, fun i r m hr hm => (show My.wo D H r = _ from (wo_ne (h2 r (List.mem_of_getElem? hr))).trans (t.row i r m hr hm))⟩
theorem tabWoN {H0 H : Hp} {D z : Addr} {qs : List Addr} {F : List Row} (t : Tab H z qs F) {o : HO} (hD : H0 D = some o) (h : H0 z = none) (h2 : ∀ q ∈ qs, H0 q = none) : Tab (My.wo D H) z qs F :=
  tabWo t (fun e => by rw [e, hD] at h; cases h) fun q hq e => by
    have := h2 q hq
    rw [e, hD] at this
    cases this
end

/-! ### plain -/
section
variable {P : Program} {w : World} {K : PySem.W.Frag} {mg : Str → Option Value} {base : Heap}
abbrev sPln : Stmt := topS 15
abbrev nPln : List Str := ["size", "at", "place"]
theorem scPln : FnScope nPln ["size"] (defScope sPln) := ⟨rfl, rfl, rfl, by decide +kernel, rfl, by decide +kernel, by decide +kernel⟩
def spPln : Sp := fun vs H Q _ => ∃ (n : Nat), vs = [.int (n : Int)] ∧ n ≤ 900 ∧ ∀ H' z us, Same H H' → H z = none → Tab H' z us (idM n) → (∀ u ∈ us, H u = none) → Q (.ref z) H'
set_option maxHeartbeats 4000000 in
theorem ok_Pln {f : Addr} {fd : FuncData} {k : Nat} (F : Fun K "plain" "plain" sPln f fd)
    (m_range : mg "range" = none) : FnOk P w K mg base CX0 (k + 1) f fd ["size"] spPln := by
  refine F.ok scPln (fun vs H Q E h => ?_) (fun cdv A outer s H vs Q E hr h => ?_)
  · obtain ⟨n, rfl, _⟩ := h
    rfl
  · obtain ⟨n, rfl, hn, q⟩ := h
    refine ⟨_, pss_one (ps_ret (pe_lc (own := [("at", 1)]) (g := (gName 1)) (tt := tYes) (by rfl) scPln.nd (pi_range1 rfl m_range (pa_cons (pv 0) pa_nil)) (blkOk_by (own := [("at", 1)]) (N := nPln) (sc := (defScope sPln)) (by decide +kernel)) (fun _ _ _ _ _ => (pg_name (i := 1) scPln.nd rfl (Or.inr rfl))) (fun _ _ _ _ _ => pts_nil) (fun _ _ _ _ _ => (pe_lc (own := [("place", 2)]) (g := (gName 2)) (tt := tYes) (by rfl) scPln.nd (pi_range1 rfl m_range (pa_cons (pv 0) pa_nil)) (blkOk_by (own := [("place", 2)]) (N := nPln) (sc := (relS (lcScope (stX (stN (defBody sPln) 0))) (defScope sPln))) (by decide +kernel)) (fun _ _ _ _ _ => (pg_name (i := 2) scPln.nd rfl (Or.inl rfl))) (fun _ _ _ _ _ => pts_nil) (fun _ _ _ _ _ => (pe_ifExp (pt_cmpR op_eq (pv 2) (pv 1) (nomark _)) pe_int pe_int)))))), ?_⟩
    refine ⟨_, rfl, (n : Int), rfl, by omega, by omega, fun D hD => ?_⟩
    refine lc_range (lo := 0) (n := _) (fun i H2 => ∃ us, Mw H D ((idM n).take i) H2 us) ⟨[], Mw.start hD⟩ (fun i H2 hi hW => ?_) (fun H2 hW => ?_)
    · rw [Int.toNat_natCast] at hi
      obtain ⟨us, mw⟩ := hW
      have iz : (0 : Int) + (i : Int) = (i : Int) := Int.zero_add _
      rw [iz]
      refine ⟨rfl, t_yes ?_⟩
      refine ⟨_, rfl, (n : Int), rfl, by omega, by omega, fun D2 hD2 => ?_⟩
      refine lc_range (lo := 0) (n := _) (fun j H3 => Mk H2 D2 (unitR n i) j H3) (Mk.start hD2) (fun j H3 hj mk => ?_) (fun H3 mk => ?_)
      · rw [Int.toNat_natCast] at hj
        have jz : (0 : Int) + (j : Int) = (j : Int) := Int.zero_add _
        rw [jz]
        refine ⟨rfl, t_yes ?_⟩
        have e := unitR_get (i := i) hj
        refine ⟨_, rfl, _, rfl, rfl, _, rfl, ?_⟩
        by_cases h : i = j
        · rw [if_pos h] at e
          exact iteT' (decide_eq_true (by rw [h])) (mk.step hD2 (Same.refl _) e (by rw [unitR_len]; omega))
        · rw [if_neg h] at e
          exact iteF' (decide_eq_false (fun z => h (by have := V.int.inj z; omega))) (mk.step hD2 (Same.refl _) e (by rw [unitR_len]; omega))
      · have iu := mk.done (by rw [unitR_len, Int.toNat_natCast])
        obtain ⟨acc, a1, a2, a3⟩ := mw.push hD mk.same hD2 iu (by rw [List.length_take, idM_len]; omega)
        refine ⟨acc, a1, a2, us ++ [D2], ?_⟩
        rw [List.take_add_one, idM_get hi]
        exact a3
    · obtain ⟨us, mw⟩ := hW
      rw [Int.toNat_natCast, List.take_of_length_le (by rw [idM_len]; exact Nat.le_refl _)] at mw
      exact q H2 D us mw.same hD mw.tab mw.fresh
end

/-! ### _law_cell -/
section
variable {P : Program} {w : World} {K : PySem.W.Frag} {mg : Str → Option Value} {base : Heap}
abbrev sCell : Stmt := topS 22

theorem scCell : FnScope ["_law_script", "_law_k", "_law_seed"] ["_law_script", "_law_k"] (defScope sCell) := ⟨rfl, rfl, rfl, by decide +kernel, rfl, by decide +kernel, by decide +kernel⟩

def spCell (K : PySem.W.Frag) : Sp := fun vs H Q _ => ∃ (a : Addr) (ns : List Int) (k : Nat), vs = [.ref a, .int (k : Int)] ∧ SqL K H a (iv ns) ∧ k ≤ 1000 ∧ ∀ c : Int, Q (.int c) H

theorem ok_cell {f : Addr} {fd : FuncData} {k : Nat} (F : Fun K "_law_cell" "_law_cell" sCell f fd) (ml : mg "len" = none) : FnOk P w K mg base CX0 (k + 1) f fd ["_law_script", "_law_k"] (spCell K) := by
  refine F.ok scCell (fun vs H Q E h => ?_) (fun cdv A outer s H vs Q E hr h => ?_)
  · obtain ⟨a, ns, k, rfl, _⟩ := h
    rfl
  · obtain ⟨a, ns, k, rfl, hS, hk, q⟩ := h
    refine ⟨_, pss_cons (ps_if (pt_cmpR op_lt (pv 1) (pe_callB call_len_seq (by rfl) ml PySem.boot_len (pa_cons (pv 0) pa_nil)) (nomark _)) (pss_one (ps_ret (pe_ix ix_list (pv 0) (pv 1) (fun _ _ => rfl)))) pss_nil)
      (pss_cons (ps_set (i := 2) scCell.nd rfl (.inl rfl) (pe_op op_add (pe_op op_mul pe_int (pv 1)) pe_int))
      (C8.pss_cut (ps_if (pt_cmpR op_gt (pe_callB call_len_seq (by rfl) ml PySem.boot_len (pa_cons (pv 0) pa_nil)) pe_int (nomark _))
        (pss_one (ps_set (i := 2) scCell.nd rfl (.inl rfl) (pe_op op_add (pv 2) (pe_op op_mod (pe_ix ix_list (pv 0) (pe_op op_mod (pv 1) (pe_callB call_len_seq (by rfl) ml PySem.boot_len (pa_cons (pv 0) pa_nil))) (fun _ _ => rfl)) pe_int)))) pss_nil)
      (pss_one (ps_ret (pe_op op_mod (pe_op op_mul (pe_op op_mod (pe_op op_mul (pv 2) pe_int) pe_int) (pe_op op_add (pv 1) pe_int)) pe_int))))), ?_⟩
    have hl : (iv ns).length = ns.length := List.length_map _
    refine ⟨_, rfl, _, rfl, a, _, rfl, .inl hS, _, _, rfl, rfl, _, rfl, ?_⟩
    rw [hl]
    refine ite2 (fun c => ?_) (fun c => ?_)
    · have c' := of_decide_eq_true c
      exact ⟨_, rfl, _, rfl, a, _, _, _, rfl, rfl, hS, atI_nat (iv_ent (by omega)), q _⟩
    · refine ⟨_, rfl, _, _, rfl, rfl, .inl ⟨by omega, by omega⟩, _, _, rfl, rfl, ?_⟩
      refine ⟨fun σ' H' => ∃ sd : Int, σ' = [some (.ref a), some (.int (k : Int)), some (.int sd)] ∧ H' = H ∧ 0 ≤ sd ∧ sd < 100000000, ?_, fun σ' H' hW => ?_⟩
      · refine ⟨_, rfl, a, _, rfl, .inl hS, _, _, rfl, rfl, _, rfl, ?_⟩
        rw [hl]
        refine ite2 (fun c => ?_) (fun c => ?_)
        · have c' := of_decide_eq_true c
          have b1 := Int.emod_nonneg (k : Int) (show (ns.length : Int) ≠ 0 by omega)
          have b2 := Int.emod_lt_of_pos (k : Int) (show (0 : Int) < ns.length by omega)
          obtain ⟨j, hj⟩ := Int.eq_ofNat_of_zero_le b1
          have hjl : j < ns.length := by omega
          refine ⟨_, rfl, _, rfl, _, rfl, _, rfl, a, _, rfl, .inl hS, _, _, rfl, rfl, (by show (0 : Int) < ((iv ns).length : Int); rw [hl]; omega), a, _, _, _, rfl, rfl, hS, at_of (j := j) (by rw [← hj, hl]) (iv_ent hjl), _, _, rfl, rfl, (by show (0 : Int) < 65519; decide), _, _, rfl, rfl, ?_⟩
          have b3 := Int.emod_nonneg (ent ns j) (show (65519 : Int) ≠ 0 by decide)
          have b4 := Int.emod_lt_of_pos (ent ns j) (show (0 : Int) < 65519 by decide)
          exact ⟨_, rfl, rfl, by omega, by omega⟩
        · exact ⟨_, rfl, rfl, by omega, by omega⟩
      · obtain ⟨sd, rfl, rfl, h0, h1⟩ := hW
        refine ⟨_, rfl, _, _, rfl, rfl, .inl ⟨by omega, by omega⟩, _, _, rfl, rfl, (by show (0 : Int) < 65537; decide), _, rfl, _, _, rfl, rfl, _, _, rfl, rfl, .inr ⟨by omega, by omega⟩, _, _, rfl, rfl, (by show (0 : Int) < 65521; decide), q _⟩
end

/-! ### _law_bag -/
section
variable {P : Program} {w : World} {K : PySem.W.Frag} {mg : Str → Option Value} {base : Heap}
abbrev sBag : Stmt := topS 23

theorem scBag : FnScope ["_law_script", "_law_at", "_law_cell_here"] ["_law_script", "_law_at"] (defScope sBag) := ⟨rfl, rfl, rfl, by decide +kernel, rfl, by decide +kernel, by decide +kernel⟩

def spBag (K : PySem.W.Frag) : Sp := fun vs H Q _ => ∃ (a : Addr) (ns : List Int) (k : Nat), vs = [.ref a, .int (k : Int)] ∧ SqL K H a (iv ns) ∧ k ≤ 1000 ∧ ∀ q H', H q = none → Same H H' → Bg H' q 1001 → Q (.ref q) H'

theorem ok_bag {f fC : Addr} {fd fdC : FuncData} {k : Nat} (F : Fun K "_law_bag" "_law_bag" sBag f fd)
    (GC : FnOk P w K mg base CX0 (k + 1) fC fdC ["_law_script", "_law_k"] (spCell K)) (bC : Binds K fdC ["_law_script", "_law_k"] []) (kC : PySem.W.keepIn K (.ref fC) = true) (mC : mg "_law_cell" = some (.ref fC)) (ma : mg "abs" = none) :
    FnOk P w K mg base CX0 (k + 2) f fd ["_law_script", "_law_at"] (spBag K) := by
  refine F.ok scBag (fun vs H Q E h => ?_) (fun cdv A outer s H vs Q E hr h => ?_)
  · obtain ⟨a, ns, k, rfl, _⟩ := h
    rfl
  · obtain ⟨a, ns, k, rfl, hS, hk, q⟩ := h
    refine ⟨_, pss_cons (ps_set (i := 2) scBag.nd rfl (.inl rfl) (pe_call GC hr (by rfl) mC kC bC .nil pass0 (pa_cons (pv 0) (pa_cons (pv 1) pa_nil))))
      (pss_cons (ps_if (pt_cmpR op_ge (pe_callB call_abs (by rfl) ma (by decide +kernel) (pa_cons (pv 2) pa_nil)) (pe_op op_pow pe_int pe_int) (nomark _))
        (pss_one (ps_ret (pe_lst (pa_cons (pe_callB call_abs (by rfl) ma (by decide +kernel) (pa_cons (pv 2) pa_nil)) (pa_cons pe_int pa_nil))))) pss_nil)
      (pss_one (ps_ret (pe_lst (pa_cons (pe_op op_mod (pv 2) pe_int) (pa_cons (pe_op op_add (pv 1) pe_int) pa_nil)))))), ?_⟩
    refine ⟨_, rfl, _, rfl, ⟨a, ns, k, rfl, hS, hk, fun c => ?_⟩⟩
    refine ⟨_, rfl, _, rfl, _, _, rfl, rfl, ⟨by decide, by decide, by decide⟩, _, _, rfl, rfl, _, rfl, ?_⟩
    refine ite2 (fun _ => ?_) (fun _ => ?_)
    · refine ⟨_, rfl, _, rfl, (by show 2 ≤ sizeLine; decide), fun l nl => q l _ nl (same_new nl) ⟨_, 0, upd_same, ?_, by omega, by omega, .inl rfl⟩⟩
      split <;> omega
    · refine ⟨_, rfl, _, _, rfl, rfl, (by show (0 : Int) < 2147483647; decide), _, rfl, _, _, rfl, rfl, (by show 2 ≤ sizeLine; decide), fun l nl => q l _ nl (same_new nl) ⟨_, _, upd_same, Int.emod_nonneg _ (by decide), by omega, by omega, .inr (Int.emod_lt_of_pos _ (by decide))⟩⟩
end

/-! ### _law_take -/
section
variable {P : Program} {w : World} {K : PySem.W.Frag} {mg : Str → Option Value} {base : Heap}
abbrev sTake : Stmt := topS 24

theorem scTake : FnScope ["_law_bag_here", "_law_many", "_law_digit"] ["_law_bag_here", "_law_many"] (defScope sTake) := ⟨rfl, rfl, rfl, by decide +kernel, rfl, by decide +kernel, by decide +kernel⟩

def spTake : Sp := fun vs H Q _ => ∃ (b : Addr) (m : Int) (c : Nat), vs = [.ref b, .int m] ∧ 0 < m ∧ m < 1073741824 ∧ Bg H b c ∧ c < 2 ^ 40 ∧ ∀ (d : Int) H', 0 ≤ d → d < m → Off b H H' → (∀ q, q ≠ b → H' q = H q) → Bg H' b (c + 1) → Q (.int d) H'

theorem ok_take {f : Addr} {fd : FuncData} {k : Nat} (F : Fun K "_law_take" "_law_take" sTake f fd) : FnOk P w K mg base CX0 (k + 1) f fd ["_law_bag_here", "_law_many"] spTake := by
  refine F.ok scTake (fun vs H Q E h => ?_) (fun cdv A outer s H vs Q E hr h => ?_)
  · obtain ⟨a, m, c, rfl, _⟩ := h
    rfl
  · obtain ⟨b, m, c, rfl, h0, h1, ⟨x, y, hb, hx, hy, hyc, hxy⟩, hc, q⟩ := h
    refine ⟨_, pss_cons (ps_if (pt_cmpR op_eq (pe_ix ix_list (pv 0) pe_int (fun _ _ => rfl)) pe_int (nomark _))
        (pss_cons (ps_set (i := 2) scTake.nd rfl (.inl rfl) (pe_op op_mod (pe_ix ix_list (pv 0) pe_int (fun _ _ => rfl)) (pv 1)))
        (pss_cons (ps_asg (pe_op op_fdiv (pe_ix ix_list (pv 0) pe_int (fun _ _ => rfl)) (pv 1)) (pg_sub (pv 0) pe_int set_list (fun _ => rfl)))
        (pss_one (ps_ret (pv 2))))) pss_nil)
      (pss_cons (ps_asg (pe_op op_mod (pe_op op_add (pe_op op_add (pe_op op_mul (pe_ix ix_list (pv 0) pe_int (fun _ _ => rfl)) pe_int) (pe_op op_mul (pe_op op_mul pe_int (pe_ix ix_list (pv 0) pe_int (fun _ _ => rfl))) (pe_ix ix_list (pv 0) pe_int (fun _ _ => rfl)))) pe_int) pe_int) (pg_sub (pv 0) pe_int set_list (fun _ => rfl)))
      (pss_cons (ps_asg (pe_op op_add (pe_ix ix_list (pv 0) pe_int (fun _ _ => rfl)) pe_int) (pg_sub (pv 0) pe_int set_list (fun _ => rfl)))
      (pss_one (ps_ret (pe_op op_mod (pe_op op_fdiv (pe_op op_mod (pe_op op_mul (pe_ix ix_list (pv 0) pe_int (fun _ _ => rfl)) pe_int) pe_int) pe_int) (pv 1)))))), ?_⟩
    refine ⟨_, rfl, b, _, _, _, rfl, rfl, SqL.of hb, atI_nat (j := 1) rfl, rfl, _, rfl, ite2 (fun e => ?_) (fun e => ?_)⟩
    · refine ⟨_, rfl, b, _, _, _, rfl, rfl, SqL.of hb, atI_nat (j := 0) rfl, _, rfl, _, _, rfl, rfl, h0, ?_⟩
      refine ⟨_, rfl, b, _, _, _, rfl, rfl, SqL.of hb, atI_nat (j := 0) rfl, _, rfl, _, _, rfl, rfl, ⟨h0, h1⟩, _, rfl, b, _, _, 0, rfl, rfl, hb, rfl, ?_⟩
      have ey : y = 0 := V.int.inj (of_decide_eq_true e)
      refine ⟨_, rfl, q _ _ (Int.emod_nonneg _ (by omega)) (Int.emod_lt_of_pos _ h0) (fun r o n h => by rw [upd_ne n]; exact h) (fun r n => upd_ne n) ⟨_, y, upd_same, Int.ediv_nonneg hx (by omega), hy, by omega, .inl ey⟩⟩
    · have ny : y ≠ 0 := fun z => e (decide_eq_true (congrArg V.int z))
      have hx2 : x < 2147483647 := hxy.resolve_left ny
      refine ⟨_, rfl, b, _, _, _, rfl, rfl, SqL.of hb, atI_nat (j := 0) rfl, _, _, rfl, rfl, .inl ⟨by omega, by omega⟩, _, rfl, b, _, _, _, rfl, rfl, SqL.of hb, atI_nat (j := 1) rfl, _, _, rfl, rfl, .inl ⟨by omega, by omega⟩, _, rfl, b, _, _, _, rfl, rfl, SqL.of hb, atI_nat (j := 1) rfl, _, _, rfl, rfl, .inr ⟨by omega, by omega⟩, _, _, rfl, rfl, _, _, rfl, rfl, _, _, rfl, rfl, (by show (0 : Int) < 2147483647; decide), _, rfl, b, _, _, 0, rfl, rfl, hb, rfl, ?_⟩
      have m0 : ∀ z : Int, 0 ≤ z % 2147483647 := fun z => Int.emod_nonneg _ (by decide)
      have m1 : ∀ z : Int, z % 2147483647 < 2147483647 := fun z => Int.emod_lt_of_pos _ (by decide)
      dsimp only
      generalize hz : (x * 48271 + 7919 * y * y + 17) % 2147483647 = z at *
      have z0 : 0 ≤ z := hz ▸ m0 _
      have z1 : z < 2147483647 := hz ▸ m1 _
      have hb2 : (upd H b (.lst ([V.int x, V.int y].set 0 (.int z)))) b = some (.lst [.int z, .int y]) := upd_same
      refine ⟨_, rfl, b, _, _, _, rfl, rfl, SqL.of hb2, atI_nat (j := 1) rfl, _, _, rfl, rfl, _, rfl, b, _, _, 1, rfl, rfl, hb2, rfl, ?_⟩
      refine ⟨_, rfl, b, [.int z, .int (y + 1)], _, _, rfl, rfl, SqL.of upd_same, atI_nat (j := 0) rfl, _, _, rfl, rfl, .inl ⟨by omega, by omega⟩, _, _, rfl, rfl, (by show (0 : Int) < 2147483629; decide), _, _, rfl, rfl, ⟨by decide, by decide⟩, _, rfl, _, _, rfl, rfl, h0, ?_⟩
      exact q _ _ (Int.emod_nonneg _ (by omega)) (Int.emod_lt_of_pos _ h0) (fun r o n h => by rw [upd_ne n, upd_ne n]; exact h) (fun r n => by rw [upd_ne n, upd_ne n]) ⟨z, y + 1, upd_same, z0, by omega, by omega, .inr z1⟩
end

/-! ### _law_prime -/
section
variable {P : Program} {w : World} {K : PySem.W.Frag} {mg : Str → Option Value} {base : Heap}
abbrev sPrime : Stmt := topS 25

theorem scPrime : FnScope ["_law_bag_here"] ["_law_bag_here"] (defScope sPrime) := ⟨rfl, rfl, rfl, by decide +kernel, rfl, by decide +kernel, by decide +kernel⟩

def spPrime : Sp := fun vs H Q _ => ∃ (b : Addr) (c : Nat), vs = [.ref b] ∧ Bg H b c ∧ c < 2 ^ 40 ∧ ∀ p H', P5 p → Off b H H' → Bg H' b (c + 1) → Q (.int p) H'

theorem ok_prime {f fT : Addr} {fd fdT : FuncData} {k : Nat} (F : Fun K "_law_prime" "_law_prime" sPrime f fd)
    (GT : FnOk P w K mg base CX0 (k + 1) fT fdT ["_law_bag_here", "_law_many"] spTake) (bT : Binds K fdT ["_law_bag_here", "_law_many"] []) (kT : PySem.W.keepIn K (.ref fT) = true) (mT : mg "_law_take" = some (.ref fT)) :
    FnOk P w K mg base CX0 (k + 2) f fd ["_law_bag_here"] spPrime := by
  refine F.ok scPrime (fun vs H Q E h => ?_) (fun cdv A outer s H vs Q E hr h => ?_)
  · obtain ⟨a, c, rfl, _⟩ := h
    rfl
  · obtain ⟨b, c, rfl, hb, hc, q⟩ := h
    refine ⟨_, pss_one (ps_ret (pe_ix ix_list (pe_lst (pa_cons pe_int (pa_cons pe_int (pa_cons pe_int (pa_cons pe_int (pa_cons pe_int pa_nil)))))) (pe_call GT hr (by rfl) mT kT bT .nil pass0 (pa_cons (pv 0) (pa_cons pe_int pa_nil))) (fun _ _ => rfl))), ?_⟩
    refine ⟨(by show 5 ≤ sizeLine; decide), fun l nl => ?_⟩
    have nb := hb.ne nl
    refine ⟨_, rfl, ⟨b, 5, c, rfl, by decide, by decide, hb.same (upd_ne nb.symm), hc, fun d H' d0 d5 off hq hb' => ?_⟩⟩
    have hl : H' l = some (.lst [.int 2, .int 3, .int 5, .int 7, .int 11]) := off _ _ nb upd_same
    have off2 : Off b H H' := fun r o n e => off r o n (by rw [upd_ne (ne_of_none e nl)]; exact e)
    have cs : d = 0 ∨ d = 1 ∨ d = 2 ∨ d = 3 ∨ d = 4 := by omega
    rcases cs with rfl | rfl | rfl | rfl | rfl
    · exact ⟨l, _, _, _, rfl, rfl, SqL.of hl, atI_nat (j := 0) rfl, q _ _ (.inl rfl) off2 hb'⟩
    · exact ⟨l, _, _, _, rfl, rfl, SqL.of hl, atI_nat (j := 1) rfl, q _ _ (.inr (.inl rfl)) off2 hb'⟩
    · exact ⟨l, _, _, _, rfl, rfl, SqL.of hl, atI_nat (j := 2) rfl, q _ _ (.inr (.inr (.inl rfl))) off2 hb'⟩
    · exact ⟨l, _, _, _, rfl, rfl, SqL.of hl, atI_nat (j := 3) rfl, q _ _ (.inr (.inr (.inr (.inl rfl)))) off2 hb'⟩
    · exact ⟨l, _, _, _, rfl, rfl, SqL.of hl, atI_nat (j := 4) rfl, q _ _ (.inr (.inr (.inr (.inr rfl)))) off2 hb'⟩
end

/-! ### _law_sparse -/
section
variable {P : Program} {w : World} {K : PySem.W.Frag} {mg : Str → Option Value} {base : Heap}
abbrev sSparse : Stmt := topS 26

theorem scSparse : FnScope ["_law_p", "_law_length", "_law_bag_here", "_law_row", "_law_some", "_law_k", "_law_number"] ["_law_p", "_law_length", "_law_bag_here"] (defScope sSparse) := ⟨rfl, rfl, rfl, by decide +kernel, rfl, by decide +kernel, by decide +kernel⟩

def spSparse : Sp := fun vs H Q _ => ∃ (p : Int) (n : Nat) (b : Addr) (c : Nat), vs = [.int p, .int (n : Int), .ref b] ∧ 0 < p ∧ p ≤ 11 ∧ n ≤ 100 ∧ Bg H b c ∧ c < 2 ^ 30 ∧ ∀ q row H', Wf p n row → Off b H H' → H q = none → IL H' q row → Bg H' b (c + 1 + 2 * n) → Q (.ref q) H'

theorem ok_sparse {f fT : Addr} {fd fdT : FuncData} {k : Nat} (F : Fun K "_law_sparse" "_law_sparse" sSparse f fd)
    (GT : FnOk P w K mg base CX0 (k + 1) fT fdT ["_law_bag_here", "_law_many"] spTake) (bT : Binds K fdT ["_law_bag_here", "_law_many"] []) (kT : PySem.W.keepIn K (.ref fT) = true) (mT : mg "_law_take" = some (.ref fT))
    (mr : mg "range" = none) (mi : mg "int" = none) : FnOk P w K mg base CX0 (k + 2) f fd ["_law_p", "_law_length", "_law_bag_here"] spSparse := by
  refine F.ok scSparse (fun vs H Q E h => ?_) (fun cdv A outer s H vs Q E hr h => ?_)
  · obtain ⟨p, n, b, c, rfl, _⟩ := h
    rfl
  · obtain ⟨p, n, b, c, rfl, hp, hp2, hn, hb, hc, q⟩ := h
    refine ⟨_, pss_cons (ps_set (i := 3) scSparse.nd rfl (.inl rfl) (pe_lst pa_nil))
      (pss_cons (ps_set (i := 4) scSparse.nd rfl (.inl rfl) (pe_op op_add pe_int (pe_call GT hr (by rfl) mT kT bT .nil pass0 (pa_cons (pv 2) (pa_cons pe_int pa_nil)))))
      (pss_cons (ps_for PassesOwn.never rfl (pi_range1 rfl mr (pa_cons (pv 1) pa_nil)) (pg_name (i := 5) scSparse.nd rfl (Or.inl rfl))
        (pss_cons (ps_set (i := 6) scSparse.nd rfl (.inl rfl) (pe_call GT hr (by rfl) mT kT bT .nil pass0 (pa_cons (pv 2) (pa_cons (pv 0) pa_nil))))
        (pss_one (ps_expr (pe_bm PySem.F.plainAttrs_list PySem.F.slot_list_append PySem.F.type_list_append mt_append (pv 3) (pa_cons (pe_op op_mul (pv 6) (pe_callTy call_int1 (by rfl) mi (by decide +kernel) (pa_cons (pe_cmpR op_lt (pe_call GT hr (by rfl) mT kT bT .nil pass0 (pa_cons (pv 2) (pa_cons pe_int pa_nil))) (pv 4) (nomark _)) pa_nil))) pa_nil))))))
      (pss_one (ps_ret (pv 3))))), ?_⟩
    refine ⟨Nat.zero_le _, fun l nl => ?_⟩
    have nb := hb.ne nl
    refine ⟨_, rfl, ⟨b, 4, c, rfl, by decide, by decide, hb.same (upd_ne nb.symm), by omega, fun d H' d0 d1 off hq hb' => ?_⟩⟩
    have il0 : IL H' l [] := off _ _ nb upd_same
    have off0 : Off b H H' := fun r o n e => off r o n (by rw [upd_ne (ne_of_none e nl)]; exact e)
    refine ⟨_, _, rfl, rfl, _, rfl, (n : Int), rfl, by omega, by omega, ?_⟩
    refine for_range (lo := 0) (n := n) (fun i σ H2 => ∃ (row : List Int) (y5 y6 : Option V), σ = [some (.int p), some (.int (n : Int)), some (.ref b), some (.ref l), some (.int (1 + d)), y5, y6] ∧ Wf p i row ∧ Off b H H2 ∧ IL H2 l row ∧ Bg H2 b (c + 1 + 2 * i)) ⟨[], none, none, rfl, ⟨rfl, fun x hx => by simp at hx⟩, off0, il0, hb'⟩ (fun i σ H2 hi hW => ?_) (fun σ H2 hW => ?_)
    · obtain ⟨row, y5, y6, rfl, wr, off1, il1, hb1⟩ := hW
      refine ⟨_, rfl, _, rfl, ⟨b, p, c + 1 + 2 * i, rfl, hp, by omega, hb1, by omega, fun x H3 x0 x1 off2 hq2 hb2 => ?_⟩⟩
      have il2 : IL H3 l row := off2 _ _ nb il1
      refine ⟨_, rfl, .inl ⟨rfl, _, SqL.of il2⟩, _, rfl, _, rfl, ⟨b, 4, c + 1 + 2 * i + 1, rfl, by decide, by decide, hb2, by omega, fun y H4 y0 y1 off3 hq3 hb3 => ?_⟩⟩
      have il3 : IL H4 l row := off3 _ _ nb il2
      refine ⟨_, rfl, _, _, rfl, rfl, .inr ⟨_, rfl, ?_⟩⟩
      have bit : ∀ k : Bool, (0 : Int) ≤ (if k = true then 1 else 0) ∧ (if k = true then (1 : Int) else 0) ≤ 1 := fun k => by cases k <;> decide
      have bb := bit (decide (y < 1 + d))
      generalize (if decide (y < 1 + d) = true then (1 : Int) else 0) = z at *
      refine ⟨_, _, rfl, rfl, .inl ⟨by omega, by omega⟩, l, _, _, rfl, rfl, il3, by rw [List.length_map, wr.len]; exact small1000 (by omega), ?_⟩
      have zz : 0 ≤ x * z ∧ x * z < p := by
        have cs : z = 0 ∨ z = 1 := by omega
        rcases cs with rfl | rfl
        · rw [Int.mul_zero]; omega
        · rw [Int.mul_one]; omega
      refine ⟨row ++ [x * z], _, _, rfl, ⟨by rw [List.length_append, wr.len]; rfl, fun u hu => ?_⟩, ?_, ?_, ?_⟩
      · rcases List.mem_append.mp hu with h | h
        · exact wr.rng u h
        · rw [List.mem_singleton.mp h]
          exact zz
      · exact ((off1.trans off2).trans off3).new nl
      · show (upd H4 l _) l = _
        rw [upd_same]
        simp
      · have e : c + 1 + 2 * (i + 1) = c + 1 + 2 * i + 1 + 1 := by omega
        rw [e]
        exact hb3.same (upd_ne nb.symm)
    · obtain ⟨row, y5, y6, rfl, wr, off1, il1, hb1⟩ := hW
      exact ⟨_, rfl, q l row H2 wr off1 nl il1 hb1⟩
end

/-! ### _law_table -/
section
variable {P : Program} {w : World} {K : PySem.W.Frag} {mg : Str → Option Value} {base : Heap}
abbrev sTbl : Stmt := topS 27

abbrev nTbl : List Str := ["_law_p", "_law_high", "_law_wide", "_law_bag_here", "_law_rows", "_law_k", "_law_row", "_law_one", "_law_rest", "_law_number"]

theorem scTbl : FnScope nTbl ["_law_p", "_law_high", "_law_wide", "_law_bag_here"] (defScope sTbl) := ⟨rfl, rfl, rfl, by decide +kernel, rfl, by decide +kernel, by decide +kernel⟩

def spTbl : Sp := fun vs H Q _ => ∃ (p : Int) (n many : Nat) (b : Addr) (c : Nat), vs = [.int p, .int (many : Int), .int (n : Int), .ref b] ∧ 0 < p ∧ p ≤ 11 ∧ n ≤ 100 ∧ many ≤ 100 ∧ Bg H b c ∧ c < 2 ^ 20 ∧
  ∀ q rs M H', Wfs p n M → M.length = many → Off b H H' → H q = none → Tab H' q rs M → (∀ r ∈ rs, H r = none) → Bg H' b (c + many * (2 * n + 5)) → Q (.ref q) H'

theorem ok_tbl {f fT fS : Addr} {fd fdT fdS : FuncData} {k : Nat} (F : Fun K "_law_table" "_law_table" sTbl f fd)
    (GT : FnOk P w K mg base CX0 (k + 2) fT fdT ["_law_bag_here", "_law_many"] spTake) (bT : Binds K fdT ["_law_bag_here", "_law_many"] []) (kT : PySem.W.keepIn K (.ref fT) = true) (mT : mg "_law_take" = some (.ref fT))
    (GS : FnOk P w K mg base CX0 (k + 2) fS fdS ["_law_p", "_law_length", "_law_bag_here"] spSparse) (bS : Binds K fdS ["_law_p", "_law_length", "_law_bag_here"] []) (kS : PySem.W.keepIn K (.ref fS) = true) (mS : mg "_law_sparse" = some (.ref fS))
    (mr : mg "range" = none) (ml : mg "len" = none) : FnOk P w K mg base CX0 (k + 3) f fd ["_law_p", "_law_high", "_law_wide", "_law_bag_here"] spTbl := by
  refine F.ok scTbl (fun vs H Q E h => ?_) (fun cdv A outer s H vs Q E hr h => ?_)
  · obtain ⟨p, n, many, b, c, rfl, _⟩ := h
    rfl
  · obtain ⟨p, n, many, b, c, rfl, hp, hp2, hn, hmany, hb, hc, q⟩ := h
    refine ⟨_, pss_cons (ps_set (i := 4) scTbl.nd rfl (.inl rfl) (pe_lst pa_nil))
      (pss_cons (ps_for PassesOwn.never rfl (pi_range1 rfl mr (pa_cons (pv 1) pa_nil)) (pg_name (i := 5) scTbl.nd rfl (Or.inl rfl))
        (pss_cons (ps_set (i := 6) scTbl.nd rfl (.inl rfl) (pe_call GS hr (by rfl) mS kS bS .nil pass0 (pa_cons (pv 0) (pa_cons (pv 2) (pa_cons (pv 3) pa_nil)))))
        (C8.pss_cut (ps_if (PW.pt (pw_and (pt_cmpR op_gt (pe_callB call_len_seq (by rfl) ml PySem.boot_len (pa_cons (pv 4) pa_nil)) pe_int (nomark _)) (pw_and1 (pt_cmpR op_eq (pe_call GT hr (by rfl) mT kT bT .nil pass0 (pa_cons (pv 3) (pa_cons pe_int pa_nil))) pe_int (nomark _)))))
          (pss_cons (ps_set (i := 7) scTbl.nd rfl (.inl rfl) (pe_ix ix_list (pv 4) (pe_call GT hr (by rfl) mT kT bT .nil pass0 (pa_cons (pv 3) (pa_cons (pe_callB call_len_seq (by rfl) ml PySem.boot_len (pa_cons (pv 4) pa_nil)) pa_nil))) (fun _ _ => rfl)))
          (pss_cons (ps_set (i := 8) scTbl.nd rfl (.inr rfl) (pe_call GT hr (by rfl) mT kT bT .nil pass0 (pa_cons (pv 3) (pa_cons (pv 0) pa_nil))))
          (pss_one (ps_setLc (i := 6) (own := [("_law_number", 9)]) (g := gName 9) (tt := tYes) (by rfl) scTbl.nd rfl rfl (sw_true rfl rfl rfl (by decide +kernel)) (pi_list (pv 7)) (blkOk_by (own := [("_law_number", 9)]) (N := nTbl) (sc := defScope sTbl) (by decide +kernel))
            (fun _ _ _ _ _ => pg_name (i := 9) scTbl.nd rfl (Or.inl rfl)) (fun _ _ _ _ _ => pts_nil)
            (fun _ _ _ _ _ => pe_op op_mod (pe_op op_mul (pv 8) (pv 9)) (pv 0))))))
          pss_nil)
        (pss_one (ps_expr (pe_bm PySem.F.plainAttrs_list PySem.F.slot_list_append PySem.F.type_list_append mt_append (pv 4) (pa_cons (pv 6) pa_nil)))))))
      (pss_one (ps_ret (pv 4)))), ?_⟩
    refine ⟨Nat.zero_le _, fun l nl => ?_⟩
    have nb := hb.ne nl
    refine ⟨_, rfl, (many : Int), rfl, by omega, by omega, ?_⟩
    refine for_range (lo := 0) (n := many) (fun i σ H' => ∃ rs M y5 y6 y7 y8 y9, σ = [some (.int p), some (.int (many : Int)), some (.int (n : Int)), some (.ref b), some (.ref l), y5, y6, y7, y8, y9] ∧ M.length = i ∧ RowI p n b (c + i * (2 * n + 5)) H l rs M H')
      ⟨[], [], none, none, none, none, none, rfl, rfl, (Off.refl b H).new nl, ⟨upd_same, rfl, fun i r m hr => by simp at hr⟩, fun m hm => by simp at hm, fun r hr => by simp at hr, by rw [Nat.zero_mul, Nat.add_zero]; exact hb.same (upd_ne nb.symm)⟩ (fun i σ H' hi hW => ?_) (fun σ H' hW => ?_)
    · obtain ⟨rs, M, y5, y6, y7, y8, y9, rfl, hM, I⟩ := hW
      have bound : i * (2 * n + 5) ≤ 100 * 205 := Nat.mul_le_mul (by omega) (by omega)
      have es : c + (i + 1) * (2 * n + 5) = c + i * (2 * n + 5) + (2 * n + 5) := by rw [Nat.add_mul, Nat.one_mul]; omega
      generalize hci : c + i * (2 * n + 5) = ci at *
      refine ⟨_, rfl, _, rfl, _, rfl, ⟨p, n, b, ci, rfl, hp, hp2, hn, I.bag, by omega, fun r0 row0 H1 w0 off1 n0 il0 bag1 => ?_⟩⟩
      have nbr : ∀ r ∈ rs, r ≠ b := fun r hr e => by
        obtain ⟨m, _, hm⟩ := IL.ref I.tab hr
        have z := I.fresh r hr
        rw [e] at z
        obtain ⟨x, y, h1, _⟩ := hb
        rw [h1] at z
        cases z
      have T1 : Tab H1 l rs M := I.tab.off off1 nb nbr
      have n00 : r0 ≠ b := I.bag.ne n0
      refine ⟨fun σ' H2 => ∃ r row y7 y8 y9, σ' = [some (.int p), some (.int (many : Int)), some (.int (n : Int)), some (.ref b), some (.ref l), some (.int (0 + (i : Int))), some (.ref r), y7, y8, y9] ∧ Off b H' H2 ∧ Wf p n row ∧ IL H2 r row ∧ H' r = none ∧ Tab H2 l rs M ∧ Bg H2 b (ci + (2 * n + 5)), ?_, fun σ' H2 hW => ?_⟩
      · refine ⟨_, rfl, l, _, rfl, .inl (SqL.of T1.at_), _, _, rfl, rfl, _, rfl, ite2 (fun c1 => ?_) (fun c1 => iteF ?_)⟩
        · refine ⟨_, rfl, ⟨b, 4, _, rfl, by decide, by decide, bag1, by omega, fun d H2 d0 d1 off2 hq2 bag2 => ?_⟩⟩
          have T2 : Tab H2 l rs M := T1.off off2 nb nbr
          have il2 := off2 _ _ n00 il0
          refine ⟨rfl, _, rfl, ite2 (fun c2 => ?_) (fun c2 => ?_)⟩
          · have lenM : (rf rs).length = M.length := by rw [List.length_map, T1.len]
            have posM : 0 < M.length := by
              have := of_decide_eq_true c1
              rw [lenM] at this
              omega
            refine ⟨_, rfl, _, rfl, _, rfl, l, _, rfl, .inl (SqL.of T2.at_), ⟨b, _, _, rfl, by rw [lenM]; omega, by rw [lenM]; omega, bag2, by omega, fun d3 H3 e0 e1 off3 hq3 bag3 => ?_⟩⟩
            rw [lenM] at e1
            obtain ⟨j1, rfl⟩ := Int.eq_ofNat_of_zero_le e0
            obtain ⟨m1, hm1⟩ := get_of (l := M) (i := j1) (by omega)
            obtain ⟨r1, hr1⟩ := get_of (l := rs) (i := j1) (by have := T1.len; omega)
            have T3 : Tab H3 l rs M := T2.off off3 nb nbr
            refine ⟨l, _, _, _, rfl, rfl, SqL.of T3.at_, atI_nat (rf_get hr1), ?_⟩
            refine ⟨_, rfl, _, rfl, ⟨b, _, _, rfl, hp, by omega, bag3, by omega, fun d5 H5 e4 e5 off5 hq5 bag5 => ?_⟩⟩
            have T5 : Tab H5 l rs M := T3.off off5 nb nbr
            have w1 := I.wf m1 (List.mem_of_getElem? hm1)
            have il1 := T5.row j1 r1 m1 hr1 hm1
            have off05 : Off b H' H5 := ((off1.trans off2).trans off3).trans off5
            refine ⟨_, rfl, r1, rfl, ⟨_, IL.sq il1⟩, fun D hD => ?_⟩
            have wmul : Wf p n (mulR p d5 m1) := mulR_wf (c := d5) hp w1
            refine lc_it (walk_list (K := K) (a := r1) (xs := iv m1)) (fun j H6 => Mk H5 D (mulR p d5 m1) j H6) (Mk.start hD) (fun j H6 _ mk => mk.same.seq (IL.sq il1)) (fun j x H6 H7 hj mk y => ?_) (fun H6 mk => ?_)
            · obtain ⟨rfl, hx⟩ := y
              obtain ⟨z1, hz1, rfl⟩ := iv_inv hx
              refine ⟨rfl, t_yes ?_⟩
              refine ⟨_, rfl, _, rfl, _, _, rfl, rfl, .inl ⟨by omega, by omega⟩, _, rfl, _, _, rfl, rfl, hp, ?_⟩
              exact mk.step hD (Same.refl _) (by unfold mulR; rw [List.getElem?_map, hz1]; rfl) (by rw [wmul.len]; omega)
            · refine ⟨D, _, _, _, _, rfl, off05.trans (Off.of mk.same), wmul, mk.done (by rw [List.length_map]; unfold mulR; rw [List.length_map]), off05.free hD (bag5.ne hD), T5.same mk.same, ?_⟩
              have z := bag5.mono (d := ci + (2 * n + 5)) (by omega)
              obtain ⟨x, y, h1, h2⟩ := z
              exact ⟨x, y, mk.same _ _ h1, h2⟩
          · exact ⟨r0, row0, _, _, _, rfl, off1.trans off2, w0, il2, n0, T2, bag2.mono (by omega)⟩
        · exact ⟨r0, row0, _, _, _, rfl, off1, w0, il0, n0, T1, bag1.mono (by omega)⟩
      · obtain ⟨r, row, z7, z8, z9, rfl, off2, wr, il, nr, T2, bag2⟩ := hW
        have lenM : (rf rs).length = M.length := by rw [List.length_map, T1.len]
        refine ⟨_, rfl, .inl ⟨rfl, _, SqL.of T2.at_⟩, _, rfl, l, _, _, rfl, rfl, T2.at_, by rw [lenM]; exact small1000 (by omega), ?_⟩
        have nrl : r ≠ l := fun e => by
          rw [e, I.tab.at_] at nr
          cases nr
        have nrb : r ≠ b := fun e => by
          obtain ⟨x, y, h1, _⟩ := I.bag
          rw [e, h1] at nr
          cases nr
        refine ⟨rs ++ [r], M ++ [row], _, _, _, _, _, rfl, by rw [List.length_append, hM]; rfl, (I.off.trans off2).new nl, T2.push il nrl, fun m hm => ?_, fun x hx => ?_, ?_⟩
        · rcases List.mem_append.mp hm with h | h
          · exact I.wf m h
          · rw [List.mem_singleton.mp h]
            exact wr
        · rcases List.mem_append.mp hx with h | h
          · exact I.fresh x h
          · rw [List.mem_singleton.mp h]
            exact I.off.free nr nrb
        · rw [es]
          exact bag2.same (upd_ne nb.symm)
    · obtain ⟨rs, M, y5, y6, y7, y8, y9, rfl, hM, I⟩ := hW
      exact ⟨_, rfl, q l rs M H' I.wf hM I.off nl I.tab I.fresh I.bag⟩
end

/-! ### _law_added -/
section
variable {P : Program} {w : World} {K : PySem.W.Frag} {mg : Str → Option Value} {base : Heap}
abbrev sAdd : Stmt := topS 28
abbrev nAdd : List Str := ["_law_p", "_law_row", "_law_rest", "_law_other", "_law_a", "_law_b"]
theorem scAdd : FnScope nAdd ["_law_p", "_law_row", "_law_rest", "_law_other"] (defScope sAdd) := ⟨rfl, rfl, rfl, by decide +kernel, rfl, by decide +kernel, by decide +kernel⟩
def spAdd : Sp := fun vs H Q _ => ∃ (p c : Int) (n : Nat) (a b : Addr) (m bm : Row), vs = [.int p, .ref a, .int c, .ref b] ∧ 0 < p ∧ n ≤ 1000 ∧ 0 ≤ c ∧ c < 1000 ∧ IL H a m ∧ Wf p n m ∧ IL H b bm ∧ Wf p n bm ∧ ∀ H' q, Same H H' → H q = none → IL H' q (mixR p c m bm) → Q (.ref q) H'
theorem ok_add {f : Addr} {fd : FuncData} {k : Nat} (F : Fun K "_law_added" "_law_added" sAdd f fd) (mz : mg "zip" = none) : FnOk P w K mg base CX0 (k + 1) f fd ["_law_p", "_law_row", "_law_rest", "_law_other"] spAdd := by
  refine F.ok scAdd (fun vs H Q E h => ?_) (fun cdv A outer s H vs Q E hr h => ?_)
  · obtain ⟨p, c, n, a, b, m, bm, rfl, _⟩ := h
    rfl
  · obtain ⟨p, c, n, a, b, m, bm, rfl, hp, hn, c0, c1, ia, wa, ib, wb, q⟩ := h
    refine ⟨_, pss_one (ps_ret (pe_lc (own := [("_law_a", 4), ("_law_b", 5)]) (g := gTup K 2 (gCons (gName 4) (gCons (gName 5) gNil))) (tt := tYes) (by rfl) scAdd.nd (pi_zip (by rfl) mz (pa_cons (pv 1) (pa_cons (pv 3) pa_nil))) (blkOk_by (own := [("_law_a", 4), ("_law_b", 5)]) (N := nAdd) (sc := defScope sAdd) (by decide +kernel))
      (fun _ _ _ _ _ => pg_tup rfl (pgs_cons (pg_name (i := 4) scAdd.nd rfl (Or.inl rfl)) (pgs_cons (pg_name (i := 5) scAdd.nd rfl (Or.inl rfl)) pgs_nil))) (fun _ _ _ _ _ => pts_nil)
      (fun _ _ _ _ _ => pe_op op_mod (pe_op op_add (pv 4) (pe_op op_mul (pv 2) (pv 5))) (pv 0)))), ?_⟩
    have wmix := mixR_wf (c := c) hp wa wb
    refine ⟨_, rfl, _, rfl, a, b, _, _, rfl, IL.sq ia, IL.sq ib, fun D hD => ?_⟩
    refine lc_it (walk_zip (K := K) (a := a) (b := b) (xs := iv m) (ys := iv bm) (n := n) (by rw [List.length_map, List.length_map, wa.len, wb.len, Nat.min_self])) (fun j H6 => Mk H D (mixR p c m bm) j H6) (Mk.start hD) (fun j H6 _ mk => ⟨mk.same.seq (IL.sq ia), mk.same.seq (IL.sq ib)⟩) (fun j x H6 H7 hj mk y => ?_) (fun H6 mk => ?_)
    · obtain ⟨T2, x1, x2, rfl, nT2, rfl, g1, g2⟩ := y
      obtain ⟨z1, hz1, rfl⟩ := iv_inv g1
      obtain ⟨z2, hz2, rfl⟩ := iv_inv g2
      refine ⟨T2, _, rfl, .inl (.inl upd_same), rfl, _, _, rfl, _, _, rfl, rfl, rfl, t_yes ?_⟩
      refine ⟨_, rfl, _, rfl, _, rfl, _, _, rfl, rfl, .inl ⟨by omega, by omega⟩, _, _, rfl, rfl, _, rfl, _, _, rfl, rfl, hp, ?_⟩
      exact mk.step hD (same_new nT2) (mixR_get hz1 hz2) (by rw [wmix.len]; omega)
    · exact q H6 D mk.same hD (mk.done (by rw [wmix.len]))
end

/-! ### _law_led -/
section
variable {P : Program} {w : World} {K : PySem.W.Frag} {mg : Str → Option Value} {base : Heap}
abbrev sLed : Stmt := topS 29
abbrev nLed : List Str := ["_law_p", "_law_row", "_law_table_here", "_law_found", "_law_number", "_law_other"]
theorem scLed : FnScope nLed ["_law_p", "_law_row", "_law_table_here"] (defScope sLed) := ⟨rfl, rfl, rfl, by decide +kernel, rfl, by decide +kernel, by decide +kernel⟩
def spLed : Sp := fun vs H Q _ => ∃ (p : Int) (n : Nat) (a b : Addr) (m : Row) (rs : List Addr) (M : List Row), vs = [.int p, .ref a, .ref b] ∧ 0 < p ∧ p ≤ 11 ∧ IL H a m ∧ (∀ x ∈ m, 0 ≤ x ∧ x < p) ∧ Tab H b rs M ∧ Wfs p n M ∧ m.length = M.length ∧ 0 < M.length ∧ M.length ≤ 500 ∧ n ≤ 900 ∧
  ∀ H' q, Same H H' → H q = none → IL H' q (mixM p m M n) → Q (.ref q) H'
theorem ok_led {f fA : Addr} {fd fdA : FuncData} {k : Nat} (F : Fun K "_law_led" "_law_led" sLed f fd)
    (GA : FnOk P w K mg base CX0 (k + 1) fA fdA ["_law_p", "_law_row", "_law_rest", "_law_other"] spAdd) (bA : Binds K fdA ["_law_p", "_law_row", "_law_rest", "_law_other"] []) (kA : PySem.W.keepIn K (.ref fA) = true) (mA : mg "_law_added" = some (.ref fA))
    (mz : mg "zip" = none) : FnOk P w K mg base CX0 (k + 2) f fd ["_law_p", "_law_row", "_law_table_here"] spLed := by
  refine F.ok scLed (fun vs H Q E h => ?_) (fun cdv A outer s H vs Q E hr h => ?_)
  · obtain ⟨p, n, a, b, m, rs, M, rfl, _⟩ := h
    rfl
  · obtain ⟨p, n, a, b, m, rs, M, rfl, hp, hp2, ia, ra, tb, wM, lm, lM, lM2, hn, q⟩ := h
    refine ⟨_, pss_cons (ps_setLc (i := 3) (own := [("_law_number", 4)]) (g := gName 4) (tt := tYes) (by rfl) scLed.nd rfl rfl (sw_true rfl rfl rfl (by decide +kernel)) (pi_list (pe_ix ix_list (pv 2) pe_int (fun _ _ => rfl))) (blkOk_by (own := [("_law_number", 4)]) (N := nLed) (sc := defScope sLed) (by decide +kernel))
          (fun _ _ _ _ _ => pg_name (i := 4) scLed.nd rfl (Or.inl rfl)) (fun _ _ _ _ _ => pts_nil) (fun _ _ _ _ _ => pe_int))
      (pss_cons (ps_for PassesOwn.never rfl (pi_zip (by rfl) mz (pa_cons (pv 1) (pa_cons (pv 2) pa_nil))) (pg_tup rfl (pgs_cons (pg_name (i := 4) scLed.nd rfl (Or.inl rfl)) (pgs_cons (pg_name (i := 5) scLed.nd rfl (Or.inl rfl)) pgs_nil)))
        (pss_one (ps_set (i := 3) scLed.nd rfl (.inl rfl) (pe_call GA hr (by rfl) mA kA bA .nil pass0 (pa_cons (pv 0) (pa_cons (pv 3) (pa_cons (pv 4) (pa_cons (pv 5) pa_nil))))))))
      (pss_one (ps_ret (pv 3)))), ?_⟩
    obtain ⟨m0, hm0⟩ := get_of (l := M) (i := 0) lM
    obtain ⟨r0, hr0⟩ := get_of (l := rs) (i := 0) (by rw [tb.len]; exact lM)
    have i0 := tb.row 0 r0 m0 hr0 hm0
    have w0 := wM m0 (List.mem_of_getElem? hm0)
    refine ⟨_, rfl, b, _, _, _, rfl, rfl, SqL.of tb.at_, atI_nat (j := 0) (rf_get hr0), r0, rfl, ⟨_, IL.sq i0⟩, fun D hD => ?_⟩
    refine lc_it (walk_list (K := K) (a := r0) (xs := iv m0)) (fun j H1 => Mk H D (zeros n) j H1) (Mk.start hD) (fun j H1 _ mk => mk.same.seq (IL.sq i0)) (fun j x H1 H2 hj mk y => ?_) (fun H1 mk => ?_)
    · obtain ⟨rfl, hx⟩ := y
      rw [List.length_map, w0.len] at hj
      refine ⟨rfl, t_yes ?_⟩
      exact mk.step hD (Same.refl _) (by rw [ent_some (by rw [zeros_len]; exact hj), zeros_ent]) (by rw [zeros_len]; omega)
    have s1 := mk.same
    have iD : IL H1 D (zeros n) := mk.done (by rw [List.length_map, w0.len, zeros_len])
    refine ⟨_, rfl, _, rfl, a, b, _, _, rfl, IL.sq (s1 _ _ ia), SqL.of (tb.same s1).at_, ?_⟩
    refine for_it (walk_zip (K := K) (a := a) (b := b) (xs := iv m) (ys := rf rs) (n := M.length) (by rw [List.length_map, List.length_map, lm, tb.len, Nat.min_self])) (fun i σ H' => ∃ c acc y4 y5, σ = [some (.int p), some (.ref a), some (.ref b), some (.ref c), y4, y5] ∧ Same H H' ∧ H c = none ∧ IL H' c acc ∧ Wf p n acc ∧ accM p acc (m.drop i) (M.drop i) = accM p (zeros n) m M)
      ⟨D, zeros n, none, none, rfl, s1, hD, iD, zeros_wf hp, rfl⟩ (fun i σ H' _ h => ?_) (fun i x σ H2 H3 hi hW y => ?_) (fun σ H' hW => ?_)
    · obtain ⟨_, _, _, _, _, sm, _⟩ := h
      exact ⟨IL.sq (sm _ _ ia), SqL.of (tb.same sm).at_⟩
    · obtain ⟨c, acc, y4, y5, rfl, sm, nc, ci, wi, e⟩ := hW
      obtain ⟨T, x1, x2, rfl, nT, rfl, g1, g2⟩ := y
      obtain ⟨t, ht, rfl⟩ := iv_inv g1
      obtain ⟨r, hrr, rfl⟩ := rf_inv g2
      obtain ⟨mm, hm⟩ := get_of (l := M) (i := i) hi
      have sT : Same H2 (L2.upd H2 T (.tup [.int t, .ref r])) := same_new nT
      have hrow : IL (L2.upd H2 T (.tup [.int t, .ref r])) r mm := sT _ _ (sm _ _ (tb.row i r mm hrr hm))
      have ci2 : IL (L2.upd H2 T (.tup [.int t, .ref r])) c acc := sT _ _ ci
      have tbd := ra t (List.mem_of_getElem? ht)
      have wm := wM mm (List.mem_of_getElem? hm)
      have sm2 := sm.trans sT
      refine ⟨T, _, rfl, .inl (.inl upd_same), rfl, _, _, rfl, _, _, rfl, rfl, ?_⟩
      generalize L2.upd H2 T (.tup [.int t, .ref r]) = H4 at *
      refine ⟨_, rfl, _, rfl, _, rfl, _, rfl, ⟨p, t, n, c, r, acc, mm, rfl, hp, by omega, by omega, by omega, ci2, wi, hrow, wm, fun H5 u s5 nu iu => ?_⟩⟩
      refine ⟨u, _, _, _, rfl, sm2.trans s5, same_none sm2 nu, iu, mixR_wf hp wi wm, ?_⟩
      rw [List.drop_eq_getElem_cons (get_lt hm), List.drop_eq_getElem_cons (get_lt ht)] at e
      rw [← e, show M[i]'(get_lt hm) = mm from Option.some.inj ((List.getElem?_eq_getElem (get_lt hm)).symm.trans hm), show m[i]'(get_lt ht) = t from Option.some.inj ((List.getElem?_eq_getElem (get_lt ht)).symm.trans ht)]
      rfl
    · obtain ⟨c, acc, y4, y5, rfl, sm, nc, ci, wi, e⟩ := hW
      rw [List.drop_eq_nil_of_le (Nat.le_refl _), accM_nil, accM_is hp wM] at e
      rw [e] at ci
      exact ⟨_, rfl, q H' c sm nc ci⟩
end

/-! ### _law_product -/
section
variable {P : Program} {w : World} {K : PySem.W.Frag} {mg : Str → Option Value} {base : Heap}
abbrev sPrd : Stmt := topS 30
abbrev nPrd : List Str := ["_law_p", "_law_one", "_law_other", "_law_row"]
theorem scPrd : FnScope nPrd ["_law_p", "_law_one", "_law_other"] (defScope sPrd) := ⟨rfl, rfl, rfl, by decide +kernel, rfl, by decide +kernel, by decide +kernel⟩
def spPrd : Sp := fun vs H Q _ => ∃ (p : Int) (n m : Nat) (a b : Addr) (rs : List Addr) (A : List Row) (qs : List Addr) (B : List Row), vs = [.int p, .ref a, .ref b] ∧ 0 < p ∧ p ≤ 11 ∧ Tab H a rs A ∧ Wfs p m A ∧ Tab H b qs B ∧ Wfs p n B ∧ m = B.length ∧ 0 < B.length ∧ B.length ≤ 500 ∧ A.length ≤ 500 ∧ n ≤ 900 ∧
  ∀ H' z us, Same H H' → H z = none → Tab H' z us (prodM p A B n) → (∀ u ∈ us, H u = none) → Q (.ref z) H'
theorem ok_prd {f fL : Addr} {fd fdL : FuncData} {k : Nat} (F : Fun K "_law_product" "_law_product" sPrd f fd)
    (GL : FnOk P w K mg base CX0 (k + 2) fL fdL ["_law_p", "_law_row", "_law_table_here"] spLed) (bL : Binds K fdL ["_law_p", "_law_row", "_law_table_here"] []) (kL : PySem.W.keepIn K (.ref fL) = true) (mL : mg "_law_led" = some (.ref fL)) : FnOk P w K mg base CX0 (k + 3) f fd ["_law_p", "_law_one", "_law_other"] spPrd := by
  refine F.ok scPrd (fun vs H Q E h => ?_) (fun cdv A outer s H vs Q E hr h => ?_)
  · obtain ⟨p, n, m, a, b, rs, A, qs, B, rfl, _⟩ := h
    rfl
  · obtain ⟨p, n, m, a, b, rs, A, qs, B, rfl, hp, hp2, tA, wA, tB, wB, hm, lB, lB2, lA, hn, q⟩ := h
    refine ⟨_, pss_one (ps_ret (pe_lc (own := [("_law_row", 3)]) (g := gName 3) (tt := tYes) (by rfl) scPrd.nd (pi_list (pv 1)) (blkOk_by (own := [("_law_row", 3)]) (N := nPrd) (sc := defScope sPrd) (by decide +kernel))
      (fun _ _ _ _ _ => pg_name (i := 3) scPrd.nd rfl (Or.inl rfl)) (fun _ _ _ _ _ => pts_nil) (fun _ _ _ _ _ => pe_call GL hr (by rfl) mL kL bL .nil pass0 (pa_cons (pv 0) (pa_cons (pv 3) (pa_cons (pv 2) pa_nil)))))), ?_⟩
    refine ⟨_, rfl, a, rfl, ⟨_, SqL.of tA.at_⟩, fun D hD => ?_⟩
    refine lc_it (walk_list (K := K) (a := a) (xs := rf rs)) (fun i H2 => ∃ us, Mw H D ((prodM p A B n).take i) H2 us) ⟨[], Mw.start hD⟩ (fun i H2 _ hW => ?_) (fun i x H2 H3 hi hW y => ?_) (fun H2 hW => ?_)
    · obtain ⟨us, mw⟩ := hW
      exact mw.same.seq (SqL.of tA.at_)
    · obtain ⟨rfl, hx⟩ := y
      obtain ⟨us, mw⟩ := hW
      obtain ⟨r, hr', rfl⟩ := rf_inv hx
      obtain ⟨row, hrow⟩ := get_of (l := A) (i := i) (by have := get_lt hr'; have := tA.len; omega)
      have ir : IL H3 r row := mw.same _ _ (tA.row i r row hr' hrow)
      have wr := wA row (List.mem_of_getElem? hrow)
      refine ⟨rfl, t_yes ?_⟩
      refine ⟨_, rfl, _, rfl, _, rfl, ⟨p, n, r, b, row, qs, B, rfl, hp, hp2, ir, wr.rng, tB.same mw.same, wB, by rw [wr.len, hm], lB, lB2, hn, fun H4 u s4 nu iu => ?_⟩⟩
      obtain ⟨acc, a1, a2, a3⟩ := mw.push hD s4 nu iu (by rw [List.length_take]; have := prodM_len (p := p) (n := n) (A := A) (B := B); omega)
      refine ⟨acc, a1, a2, us ++ [u], ?_⟩
      rw [List.take_add_one, show (prodM p A B n)[i]? = some (mixM p row B n) by unfold prodM; rw [List.getElem?_map, hrow]; rfl]
      exact a3
    · obtain ⟨us, mw⟩ := hW
      rw [List.length_map, tA.len, List.take_of_length_le (by rw [prodM_len]; exact Nat.le_refl _)] at mw
      exact q H2 D us mw.same hD mw.tab mw.fresh
end

/-! ### _law_plain -/
section
variable {P : Program} {w : World} {K : PySem.W.Frag} {mg : Str → Option Value} {base : Heap}
abbrev sLpl : Stmt := topS 37
abbrev nLpl : List Str := ["_law_size", "_law_i", "_law_j"]
theorem scLpl : FnScope nLpl ["_law_size"] (defScope sLpl) := ⟨rfl, rfl, rfl, by decide +kernel, rfl, by decide +kernel, by decide +kernel⟩
set_option maxHeartbeats 4000000 in
theorem ok_Lpl {f : Addr} {fd : FuncData} {k : Nat} (F : Fun K "_law_plain" "_law_plain" sLpl f fd)
    (m_range : mg "range" = none) (m_int : mg "int" = none) : FnOk P w K mg base CX0 (k + 1) f fd ["_law_size"] spPln := by
  refine F.ok scLpl (fun vs H Q E h => ?_) (fun cdv A outer s H vs Q E hr h => ?_)
  · obtain ⟨n, rfl, _⟩ := h
    rfl
  · obtain ⟨n, rfl, hn, q⟩ := h
    refine ⟨_, pss_one (ps_ret (pe_lc (own := [("_law_i", 1)]) (g := (gName 1)) (tt := tYes) (by rfl) scLpl.nd (pi_range1 rfl m_range (pa_cons (pv 0) pa_nil)) (blkOk_by (own := [("_law_i", 1)]) (N := nLpl) (sc := (defScope sLpl)) (by decide +kernel)) (fun _ _ _ _ _ => (pg_name (i := 1) scLpl.nd rfl (Or.inr rfl))) (fun _ _ _ _ _ => pts_nil) (fun _ _ _ _ _ => (pe_lc (own := [("_law_j", 2)]) (g := (gName 2)) (tt := tYes) (by rfl) scLpl.nd (pi_range1 rfl m_range (pa_cons (pv 0) pa_nil)) (blkOk_by (own := [("_law_j", 2)]) (N := nLpl) (sc := (relS (lcScope (stX (stN (defBody sLpl) 0))) (defScope sLpl))) (by decide +kernel)) (fun _ _ _ _ _ => (pg_name (i := 2) scLpl.nd rfl (Or.inl rfl))) (fun _ _ _ _ _ => pts_nil) (fun _ _ _ _ _ => (pe_callTy (cInt) (by rfl) m_int (by decide +kernel) (pa_cons (pe_cmpR op_eq (pv 1) (pv 2) (nomark _)) pa_nil))))))), ?_⟩
    refine ⟨_, rfl, (n : Int), rfl, by omega, by omega, fun D hD => ?_⟩
    refine lc_range (lo := 0) (n := _) (fun i H2 => ∃ us, Mw H D ((idM n).take i) H2 us) ⟨[], Mw.start hD⟩ (fun i H2 hi hW => ?_) (fun H2 hW => ?_)
    · rw [Int.toNat_natCast] at hi
      obtain ⟨us, mw⟩ := hW
      have iz : (0 : Int) + (i : Int) = (i : Int) := Int.zero_add _
      rw [iz]
      refine ⟨rfl, t_yes ?_⟩
      refine ⟨_, rfl, (n : Int), rfl, by omega, by omega, fun D2 hD2 => ?_⟩
      refine lc_range (lo := 0) (n := _) (fun j H3 => Mk H2 D2 (unitR n i) j H3) (Mk.start hD2) (fun j H3 hj mk => ?_) (fun H3 mk => ?_)
      · rw [Int.toNat_natCast] at hj
        have jz : (0 : Int) + (j : Int) = (j : Int) := Int.zero_add _
        rw [jz]
        refine ⟨rfl, t_yes ?_⟩
        refine ⟨_, rfl, _, rfl, rfl, _, rfl, ?_⟩
        have ev : (if decide (V.int (i : Int) = V.int (j : Int)) = true then (1 : Int) else 0) = if i = j then 1 else 0 := by
          by_cases h : i = j
          · rw [if_pos h, if_pos (decide_eq_true (by rw [h]))]
          · rw [if_neg h, if_neg (fun z => h (by have := V.int.inj (of_decide_eq_true z); omega))]
        rw [ev]
        exact mk.step hD2 (Same.refl _) (unitR_get hj) (by rw [unitR_len]; omega)
      · have iu := mk.done (by rw [unitR_len, Int.toNat_natCast])
        obtain ⟨acc, a1, a2, a3⟩ := mw.push hD mk.same hD2 iu (by rw [List.length_take, idM_len]; omega)
        refine ⟨acc, a1, a2, us ++ [D2], ?_⟩
        rw [List.take_add_one, idM_get hi]
        exact a3
    · obtain ⟨us, mw⟩ := hW
      rw [Int.toNat_natCast, List.take_of_length_le (by rw [idM_len]; exact Nat.le_refl _)] at mw
      exact q H2 D us mw.same hD mw.tab mw.fresh
end

/-! ### _law_copy -/
section
variable {P : Program} {w : World} {K : PySem.W.Frag} {mg : Str → Option Value} {base : Heap}
abbrev sCpy : Stmt := topS 36
theorem scCpy : FnScope ["_law_table_here", "_law_row"] ["_law_table_here"] (defScope sCpy) := ⟨rfl, rfl, rfl, by decide +kernel, rfl, by decide +kernel, by decide +kernel⟩
def spCpy : Sp := fun vs H Q _ => ∃ (a : Addr) (rs : List Addr) (A : List Row), vs = [.ref a] ∧ Tab H a rs A ∧ A.length ≤ 900 ∧ ∀ H' z us, Same H H' → H z = none → Tab H' z us A → (∀ u ∈ us, H u = none) → Q (.ref z) H'
theorem ok_cpy {f : Addr} {fd : FuncData} {k : Nat} (F : Fun K "_law_copy" "_law_copy" sCpy f fd) (mt : mg "list" = none) : FnOk P w K mg base CX0 (k + 1) f fd ["_law_table_here"] spCpy := by
  refine F.ok scCpy (fun vs H Q E h => ?_) (fun cdv A outer s H vs Q E hr h => ?_)
  · obtain ⟨a, rs, A, rfl, _⟩ := h
    rfl
  · obtain ⟨a, rs, A, rfl, tA, lA, q⟩ := h
    refine ⟨_, pss_one (ps_ret (pe_lc (own := [("_law_row", 1)]) (g := gName 1) (tt := tYes) (by rfl) scCpy.nd (pi_list (pv 0)) (blkOk_by (own := [("_law_row", 1)]) (N := ["_law_table_here", "_law_row"]) (sc := defScope sCpy) (by decide +kernel))
      (fun _ _ _ _ _ => pg_name (i := 1) scCpy.nd rfl (Or.inl rfl)) (fun _ _ _ _ _ => pts_nil) (fun _ _ _ _ _ => pe_callTy (cLst K rfl) (by rfl) mt (by decide +kernel) (pa_cons (pv 1) pa_nil)))), ?_⟩
    refine ⟨_, rfl, a, rfl, ⟨_, SqL.of tA.at_⟩, fun D hD => ?_⟩
    refine lc_it (walk_list (K := K) (a := a) (xs := rf rs)) (fun i H2 => ∃ us, Mw H D (A.take i) H2 us) ⟨[], Mw.start hD⟩ (fun i H2 _ hW => ?_) (fun i x H2 H3 hi hW y => ?_) (fun H2 hW => ?_)
    · obtain ⟨us, mw⟩ := hW
      exact mw.same.seq (SqL.of tA.at_)
    · obtain ⟨rfl, hx⟩ := y
      obtain ⟨us, mw⟩ := hW
      obtain ⟨r, hr', rfl⟩ := rf_inv hx
      obtain ⟨row, hrow⟩ := get_of (l := A) (i := i) (by have := get_lt hr'; have := tA.len; omega)
      have ir : IL H3 r row := mw.same _ _ (tA.row i r row hr' hrow)
      refine ⟨rfl, t_yes ?_⟩
      refine ⟨_, rfl, r, _, rfl, .inl (IL.sq ir), fun u nu => ?_⟩
      obtain ⟨acc, a1, a2, a3⟩ := mw.push hD (same_new (o := .lst (iv row)) nu) nu upd_same (by rw [List.length_take]; omega)
      refine ⟨acc, a1, a2, us ++ [u], ?_⟩
      rw [List.take_add_one, hrow]
      exact a3
    · obtain ⟨us, mw⟩ := hW
      rw [List.length_map, tA.len, List.take_length] at mw
      exact q H2 D us mw.same hD mw.tab mw.fresh
end

/-! ### _law_whole -/
section
variable {P : Program} {w : World} {K : PySem.W.Frag} {mg : Str → Option Value} {base : Heap}
abbrev sWhole : Stmt := topS 34

theorem scWhole : FnScope ["_law_thing", "_law_end"] ["_law_thing", "_law_end"] (defScope sWhole) := ⟨rfl, rfl, rfl, by decide +kernel, rfl, by decide +kernel, by decide +kernel⟩

def spWhole : Sp := fun vs H Q _ => ∃ (x e : Int), vs = [.int x, .int e] ∧ 0 ≤ x ∧ x < e ∧ Q (.bl true) H

theorem ok_whole {f : Addr} {fd : FuncData} {k : Nat} (F : Fun K "_law_whole" "_law_whole" sWhole f fd) (mi : mg "isinstance" = none) (mn : mg "int" = none) (mb : mg "bool" = none) : FnOk P w K mg base CX0 (k + 1) f fd ["_law_thing", "_law_end"] spWhole := by
  refine F.ok scWhole (fun vs H Q E h => ?_) (fun cdv A outer s H vs Q E hr h => ?_)
  · obtain ⟨x, e, rfl, _⟩ := h
    rfl
  · obtain ⟨x, e, rfl, h0, h1, q⟩ := h
    refine ⟨_, pss_one (ps_ret (pe_and (pe_callB call_isi (by rfl) mi (by decide +kernel) (pa_cons (pv 0) (pa_cons (pe_bltn (v := .ty "int") (by rfl) mn (by decide +kernel) rfl) pa_nil)))
      (pe_and (pe_not (pe_callB call_isi (by rfl) mi (by decide +kernel) (pa_cons (pv 0) (pa_cons (pe_bltn (v := .ty "bool") (by rfl) mb (by decide +kernel) rfl) pa_nil))))
        (pe_one (pe_chain op_le op_lt pe_int (pv 0) (pv 1)))))), ?_⟩
    refine ⟨_, rfl, _, _, _, _, true, rfl, .ty "int", .base (.int x), kit_ty (by decide +kernel), true, rfl, iteT ?_⟩
    refine ⟨_, rfl, _, _, _, _, false, rfl, .ty "bool", .base (.int x), kit_ty (by decide +kernel), false, rfl, true, rfl, iteT ?_⟩
    refine ⟨_, rfl, _, _, rfl, rfl, true, congrArg V.bl (decide_eq_true h0), iteT ?_⟩
    refine ⟨_, rfl, _, _, rfl, rfl, ?_⟩
    show Q (.bl (decide (x < e))) H
    rw [decide_eq_true h1]
    exact q
end

/-! ### _law_poly_like -/
section
variable {P : Program} {w : World} {K : PySem.W.Frag} {mg : Str → Option Value} {base : Heap}
abbrev sPlk : Stmt := topS 35
abbrev nPlk : List Str := ["_law_p", "_law_thing", "_law_number"]
theorem scPlk : FnScope nPlk ["_law_p", "_law_thing"] (defScope sPlk) := ⟨rfl, rfl, rfl, by decide +kernel, rfl, by decide +kernel, by decide +kernel⟩
def spPlk : Sp := fun vs H Q _ => ∃ (p : Int) (a : Addr) (m : Row), vs = [.int p, .ref a] ∧ IL H a m ∧ Pol p m ∧ m.length ≤ 1000 ∧ ∀ H', Same H H' → Q (.bl true) H'
theorem ok_plk {f fW : Addr} {fd fdW : FuncData} {k : Nat} (F : Fun K "_law_poly_like" "_law_poly_like" sPlk f fd)
    (GW : FnOk P w K mg base CX0 (k + 1) fW fdW ["_law_thing", "_law_end"] spWhole) (bW : Binds K fdW ["_law_thing", "_law_end"] []) (kW : PySem.W.keepIn K (.ref fW) = true) (mW : mg "_law_whole" = some (.ref fW))
    (mi : mg "isinstance" = none) (mt : mg "list" = none) (ml : mg "len" = none) (ma : mg "all" = none) : FnOk P w K mg base CX0 (k + 2) f fd ["_law_p", "_law_thing"] spPlk := by
  refine F.ok scPlk (fun vs H Q E h => ?_) (fun cdv A outer s H vs Q E hr h => ?_)
  · obtain ⟨p, a, m, rfl, _⟩ := h
    rfl
  · obtain ⟨p, a, m, rfl, im, M1, lm, q⟩ := h
    refine ⟨_, pss_cons (ps_if (PW.pt (pw_or (pt_not (pt_val (pe_callB call_isi (by rfl) mi (by decide +kernel) (pa_cons (pv 1) (pa_cons (pe_bltn (v := .ty "list") (by rfl) mt (by decide +kernel) rfl) pa_nil))))) (pw_or1 (pt_not (pt_val (pe_callB (cr_all rfl) (by rfl) ma (by decide +kernel) (pa_cons (pe_lc (own := [("_law_number", 2)]) (g := gName 2) (tt := tYes) (by rfl) scPlk.nd (pi_list (pv 1)) (blkOk_by (own := [("_law_number", 2)]) (N := nPlk) (sc := defScope sPlk) (by decide +kernel))
          (fun _ _ _ _ _ => pg_name (i := 2) scPlk.nd rfl (Or.inl rfl)) (fun _ _ _ _ _ => pts_nil) (fun _ _ _ _ _ => pe_call GW hr (by rfl) mW kW bW .nil pass0 (pa_cons (pv 2) (pa_cons (pv 0) pa_nil)))) pa_nil))))))) (pss_one (ps_ret pe_bl)) pss_nil)
      (pss_one (ps_ret (pe_or (pe_cmpR op_eq (pe_callB call_len_seq (by rfl) ml PySem.boot_len (pa_cons (pv 1) pa_nil)) pe_int (nomark _)) (pe_one (pe_cmpR op_ne (pe_ix ix_list (pv 1) (pe_un un_neg pe_int) (fun _ _ => rfl)) pe_int (nomark _)))))), ?_⟩
    have hm : H a = some (.lst (iv m)) := im
    refine ⟨_, rfl, _, _, _, _, true, rfl, .ty "list", .base (.lst hm), kit_ty (by decide +kernel), true, rfl, iteF ?_⟩
    refine ⟨_, rfl, a, rfl, ⟨_, IL.sq im⟩, fun D hD => lc_it (walk_list (K := K) (a := a) (xs := iv m)) (fun i H1 => Same H H1 ∧ H1 D = some (.lst (List.replicate i (.bl true)))) ⟨same_new hD, upd_same⟩ (fun i H1 _ h => h.1.seq (IL.sq im)) (fun i x H1 H2 hi hW y => ?_) (fun H1 hW => ?_)⟩
    · obtain ⟨rfl, hx⟩ := y
      obtain ⟨z, hz, rfl⟩ := iv_inv hx
      obtain ⟨sm1, e1⟩ := hW
      have rz := M1.rng z (List.mem_of_getElem? hz)
      refine ⟨rfl, ?_⟩
      refine t_yes ?_
      refine ⟨_, rfl, _, rfl, ⟨z, p, rfl, rz.1, rz.2, ?_⟩⟩
      refine ⟨_, e1, by rw [List.length_replicate]; exact small1000 (by have := get_lt hz; omega), same_upd hD sm1, ?_⟩
      rw [upd_same, List.replicate_succ']
    · obtain ⟨sm1, e1⟩ := hW
      refine ⟨D, List.replicate (iv m).length true, rfl, SqL.of (by rw [e1, List.map_replicate]), true, ?_, iteF ?_⟩
      · rw [List.all_replicate]
        simp
      have im1 : IL H1 a m := sm1 _ _ im
      refine ⟨_, rfl, a, _, rfl, .inl (IL.sq im1), rfl, ?_⟩
      rw [List.length_map]
      by_cases h0 : m = []
      · refine ⟨true, by rw [h0]; rfl, iteT (q _ sm1)⟩
      · refine ⟨false, ?_, iteF ?_⟩
        · rw [decide_eq_false]
          intro z
          have z2 := V.int.inj z
          exact h0 (List.eq_nil_of_length_eq_zero (by omega))
        · refine ⟨_, rfl, _, rfl, a, _, _, _, rfl, rfl, IL.sq im1, at_last h0, rfl, ?_⟩
          have e0 : V.int (lastE m) ≠ V.int 0 := fun z => M1.last h0 (V.int.inj z)
          have q1 := q _ sm1
          show Q (.bl (!decide (V.int (lastE m) = V.int 0))) H1
          rw [decide_eq_false e0]
          exact q1
end

/-! ### _law_back -/
section
variable {P : Program} {w : World} {K : PySem.W.Frag} {mg : Str → Option Value} {base : Heap}
abbrev sBack : Stmt := topS 31

theorem scBack : FnScope ["_law_p", "_law_rest", "_law_other"] ["_law_p", "_law_rest"] (defScope sBack) := ⟨rfl, rfl, rfl, by decide +kernel, rfl, by decide +kernel, by decide +kernel⟩

def spBack : Sp := fun vs H Q _ => ∃ (p r : Int), vs = [.int p, .int r] ∧ P5 p ∧ 0 < r ∧ r < p ∧ ∀ H', Same H H' → Q (.int (invM p r)) H'

theorem ok_back {f : Addr} {fd : FuncData} {k : Nat} (F : Fun K "_law_back" "_law_back" sBack f fd) (mr : mg "range" = none) : FnOk P w K mg base CX0 (k + 1) f fd ["_law_p", "_law_rest"] spBack := by
  refine F.ok scBack (fun vs H Q E h => ?_) (fun cdv A outer s H vs Q E hr h => ?_)
  · obtain ⟨p, r, rfl, _⟩ := h
    rfl
  · obtain ⟨p, r, rfl, hp, h0, h1, q⟩ := h
    have le := hp.le
    have two := hp.two
    obtain ⟨i1, i2, i3⟩ := inv_ok hp h0 h1
    refine ⟨_, pss_one (ps_ret (pe_ix ix_list (pe_lc (own := [("_law_other", 2)]) (g := gName 2) (by rfl) scBack.nd (pi_range1 rfl mr (pa_cons (pv 0) pa_nil)) (blkOk_by (own := [("_law_other", 2)]) (N := ["_law_p", "_law_rest", "_law_other"]) (sc := defScope sBack) (by decide +kernel))
      (fun _ _ _ _ _ => pg_name (i := 2) scBack.nd rfl (Or.inl rfl)) (fun _ _ _ _ _ => pts_one (pt_cmpR op_eq (pe_op op_mod (pe_op op_mul (pv 2) (pv 1)) (pv 0)) pe_int (nomark _)))
      (fun _ _ _ _ _ => pv 2)) pe_int (fun _ _ => rfl))), ?_⟩
    refine ⟨_, rfl, p, rfl, by omega, by omega, fun D hD => ?_⟩
    refine lc_range (lo := 0) (n := p.toNat) (fun i H' => Same H H' ∧ H' D = some (.lst (if invM p r < i then [.int (invM p r)] else []))) ⟨same_new hD, by rw [if_neg (by omega), upd_same]⟩ (fun i H' hi hW => ?_) (fun H' hW => ?_)
    · obtain ⟨sm, e⟩ := hW
      refine ⟨rfl, ?_⟩
      have iz : (0 : Int) + (i : Int) = (i : Int) := Int.zero_add _
      rw [iz]
      refine ⟨_, rfl, _, rfl, _, _, rfl, rfl, .inl ⟨by omega, by omega⟩, _, rfl, _, _, rfl, rfl, (by show 0 < p; omega), rfl, _, rfl, ?_⟩
      have i4 := i3 (i : Int) (by omega) (by omega)
      refine ite2 (fun c => ?_) (fun c => ?_)
      · have ei : (i : Int) = invM p r := i4.mp (V.int.inj (of_decide_eq_true c))
        rw [if_neg (by omega)] at e
        refine ⟨_, rfl, _, e, by decide, same_upd hD sm, ?_⟩
        rw [upd_same, if_pos (by omega), ei]
        rfl
      · have ei : (i : Int) ≠ invM p r := fun z => c (decide_eq_true (congrArg V.int (i4.mpr z)))
        refine ⟨sm, ?_⟩
        rw [e]
        by_cases h : invM p r < (i : Int)
        · rw [if_pos h, if_pos (by omega)]
        · rw [if_neg h, if_neg (by omega)]
    · obtain ⟨sm, e⟩ := hW
      rw [if_pos (by omega)] at e
      exact ⟨D, _, _, _, rfl, rfl, SqL.of e, atI_nat (j := 0) rfl, q H' sm⟩
end

/-! ### _law_less -/
section
variable {P : Program} {w : World} {K : PySem.W.Frag} {mg : Str → Option Value} {base : Heap}
abbrev sLess : Stmt := topS 32

abbrev nLess : List Str := ["_law_p", "_law_row", "_law_rest", "_law_other", "_law_a", "_law_b"]

theorem scLess : FnScope nLess ["_law_p", "_law_row", "_law_rest", "_law_other"] (defScope sLess) := ⟨rfl, rfl, rfl, by decide +kernel, rfl, by decide +kernel, by decide +kernel⟩

def spLess : Sp := fun vs H Q _ => ∃ (p c : Int) (n : Nat) (a b : Addr) (m bm : Row), vs = [.int p, .ref a, .int c, .ref b] ∧ 0 < p ∧ p ≤ 11 ∧ n ≤ 1000 ∧ 0 ≤ c ∧ c < 1000 ∧ IL H a m ∧ Wf p n m ∧ IL H b bm ∧ Wf p n bm ∧ ∀ H' q, Same H H' → H q = none → IL H' q (lessR p m c bm) → Q (.ref q) H'

theorem ok_less {f : Addr} {fd : FuncData} {k : Nat} (F : Fun K "_law_less" "_law_less" sLess f fd) (mz : mg "zip" = none) : FnOk P w K mg base CX0 (k + 1) f fd ["_law_p", "_law_row", "_law_rest", "_law_other"] spLess := by
  refine F.ok scLess (fun vs H Q E h => ?_) (fun cdv A outer s H vs Q E hr h => ?_)
  · obtain ⟨p, c, n, a, b, m, bm, rfl, _⟩ := h
    rfl
  · obtain ⟨p, c, n, a, b, m, bm, rfl, hp, hp2, hn, hc0, hc1, ha, wm, hb, wb, q⟩ := h
    refine ⟨_, pss_one (ps_ret (pe_lc (own := [("_law_a", 4), ("_law_b", 5)]) (g := gTup K 2 (gCons (gName 4) (gCons (gName 5) gNil))) (tt := tYes) (by rfl) scLess.nd (pi_zip (by rfl) mz (pa_cons (pv 1) (pa_cons (pv 3) pa_nil))) (blkOk_by (own := [("_law_a", 4), ("_law_b", 5)]) (N := nLess) (sc := defScope sLess) (by decide +kernel))
      (fun _ _ _ _ _ => pg_tup rfl (pgs_cons (pg_name (i := 4) scLess.nd rfl (Or.inl rfl)) (pgs_cons (pg_name (i := 5) scLess.nd rfl (Or.inl rfl)) pgs_nil))) (fun _ _ _ _ _ => pts_nil)
      (fun _ _ _ _ _ => pe_op op_mod (pe_op op_sub (pv 4) (pe_op op_mul (pv 2) (pv 5))) (pv 0)))), ?_⟩
    have hlm := wm.len
    have hlb := wb.len
    refine ⟨_, rfl, _, rfl, a, b, _, _, rfl, IL.sq ha, IL.sq hb, fun D hD => ?_⟩
    refine lc_it (walk_zip (K := K) (a := a) (b := b) (xs := iv m) (ys := iv bm) (n := n) (by rw [List.length_map, List.length_map, hlm, hlb, Nat.min_self])) (fun j H' => Mk H D (lessR p m c bm) j H') (Mk.start hD) (fun j H' _ mk => ⟨mk.same.seq (IL.sq ha), mk.same.seq (IL.sq hb)⟩) (fun j x H3 H4 hj mk y => ?_) (fun H' mk => ?_)
    · obtain ⟨T, x1, x2, rfl, nT, rfl, g1, g2⟩ := y
      obtain ⟨z1, hz1, rfl⟩ := iv_inv g1
      obtain ⟨z2, hz2, rfl⟩ := iv_inv g2
      refine ⟨T, _, rfl, .inl (.inl upd_same), rfl, _, _, rfl, _, _, rfl, rfl, rfl, ?_⟩
      refine t_yes ?_
      refine ⟨_, rfl, _, rfl, _, rfl, _, _, rfl, rfl, .inl ⟨by omega, by omega⟩, _, _, rfl, rfl, _, rfl, _, _, rfl, rfl, hp, ?_⟩
      exact mk.step hD (same_new nT) (lessR_get hz1 hz2) (by rw [lessR_len wm wb]; exact hn)
    · exact q H' D mk.same hD (mk.done (by rw [lessR_len wm wb]))
end

/-! ### _law_form -/
section
variable {P : Program} {w : World} {K : PySem.W.Frag} {mg : Str → Option Value} {base : Heap}
abbrev sForm : Stmt := topS 33

abbrev nForm : List Str := ["_law_p", "_law_rows", "_law_row", "_law_left", "_law_found", "_law_place", "_law_some", "_law_back_here", "_law_k", "_law_number", "_law_other"]

theorem scForm : FnScope nForm ["_law_p", "_law_rows"] (defScope sForm) := ⟨rfl, rfl, rfl, by decide +kernel, rfl, by decide +kernel, by decide +kernel⟩

def spForm : Sp := fun vs H Q _ => ∃ (p : Int) (n : Nat) (a : Addr) (rs : List Addr) (M : List Row), vs = [.int p, .ref a] ∧ P5 p ∧ n ≤ 100 ∧ Tab H a rs M ∧ Wfs p n M ∧ M.length ≤ 200 ∧
  ∀ H' q qs, Same H H' → H q = none → Tab H' q qs (lowM p (invM p) M) → (∀ r ∈ qs, H r = none) → Q (.ref q) H'

theorem ok_form {f fB fL : Addr} {fd fdB fdL : FuncData} {k : Nat} (F : Fun K "_law_form" "_law_form" sForm f fd)
    (GB : FnOk P w K mg base CX0 (k + 1) fB fdB ["_law_p", "_law_rest"] spBack) (bB : Binds K fdB ["_law_p", "_law_rest"] []) (kB : PySem.W.keepIn K (.ref fB) = true) (mB : mg "_law_back" = some (.ref fB))
    (GL : FnOk P w K mg base CX0 (k + 1) fL fdL ["_law_p", "_law_row", "_law_rest", "_law_other"] spLess) (bL : Binds K fdL ["_law_p", "_law_row", "_law_rest", "_law_other"] []) (kL : PySem.W.keepIn K (.ref fL) = true) (mL : mg "_law_less" = some (.ref fL))
    (ml : mg "len" = none) (mr : mg "range" = none) (mt : mg "list" = none) : FnOk P w K mg base CX0 (k + 2) f fd ["_law_p", "_law_rows"] spForm := by
  refine F.ok scForm (fun vs H Q E h => ?_) (fun cdv A outer s H vs Q E hr h => ?_)
  · obtain ⟨p, n, a, rs, M, rfl, _⟩ := h
    rfl
  · obtain ⟨p, n, a, rs, M, rfl, hp, hn, hT, hM, hML, q⟩ := h
    refine ⟨_, pss_cons (ps_set (i := 3) scForm.nd rfl (.inr rfl) (pe_lc (own := [("_law_row", 2)]) (g := gName 2) (tt := tYes) (by rfl) scForm.nd (pi_list (pv 1)) (blkOk_by (own := [("_law_row", 2)]) (N := nForm) (sc := defScope sForm) (by decide +kernel))
        (fun _ _ _ _ _ => pg_name (i := 2) scForm.nd rfl (Or.inl rfl)) (fun _ _ _ _ _ => pts_nil) (fun _ _ _ _ _ => pe_callTy (cLst K rfl) (by rfl) mt (by decide +kernel) (pa_cons (pv 2) pa_nil))))
      (pss_cons (ps_set (i := 4) scForm.nd rfl (.inl rfl) (pe_lst pa_nil))
      (pss_cons (ps_set (i := 5) scForm.nd rfl (.inr rfl) pe_int)
      (pss_cons (ps_while PassesOwn.never (pt_imp (fun σ H Q => ∃ (la : Addr) (ls : List Addr) (L : List Row) (pl n : Nat), σ[3]? = some (some (V.ref la)) ∧ σ[5]? = some (some (V.int (pl : Int))) ∧ Tab H la ls L ∧ (∀ m ∈ L, m.length = n) ∧ Q (decide (0 < L.length ∧ pl < n)) H)
          (PW.pt (pw_and (pt_cmpR op_gt (pe_callB call_len_seq (by rfl) ml PySem.boot_len (pa_cons (pv 3) pa_nil)) pe_int (nomark _)) (pw_and1 (pt_cmpR op_lt (pv 5) (pe_callB call_len_seq (by rfl) ml PySem.boot_len (pa_cons (pe_ix ix_list (pv 3) pe_int (fun _ _ => rfl)) pa_nil)) (nomark _)))))
          (fun σ H Q h => by
            obtain ⟨la, ls, L, pl, n, e3, e5, t, hw, q⟩ := h
            refine ⟨_, e3, la, _, rfl, .inl (SqL.of t.at_), _, _, rfl, rfl, _, rfl, ?_⟩
            have lenl : (rf ls).length = L.length := by rw [List.length_map, t.len]
            rw [lenl]
            by_cases hj : 0 < L.length
            · rw [decide_eq_true (show (0 : Int) < (L.length : Int) by omega)]
              refine iteT ?_
              obtain ⟨m, hm⟩ := get_of hj
              obtain ⟨r, hr⟩ := get_of (l := ls) (i := 0) (by have := t.len; omega)
              have hrow := t.row 0 r m hr hm
              have lm := hw m (List.mem_of_getElem? hm)
              refine ⟨_, e5, _, e3, la, _, _, _, rfl, rfl, SqL.of t.at_, atI_nat (j := 0) (rf_get hr), r, _, rfl, .inl (IL.sq hrow), _, _, rfl, rfl, _, rfl, ?_⟩
              rw [List.length_map, lm]
              rw [show decide ((pl : Int) < (n : Int)) = decide (0 < L.length ∧ pl < n) from decide_eq_decide.mpr ⟨fun e => ⟨hj, by omega⟩, fun e => by omega⟩]
              exact q
            · rw [decide_eq_false (show ¬ (0 : Int) < (L.length : Int) by omega)]
              refine iteF ?_
              rw [decide_eq_false (fun e => hj e.1)] at q
              exact q))
        (pss_cons (ps_setLc (i := 6) (own := [("_law_k", 8)]) (g := gName 8) (by rfl) scForm.nd rfl rfl (sw_true rfl rfl rfl (by decide +kernel)) (pi_range1 rfl mr (pa_cons (pe_callB call_len_seq (by rfl) ml PySem.boot_len (pa_cons (pv 3) pa_nil)) pa_nil)) (blkOk_by (own := [("_law_k", 8)]) (N := nForm) (sc := defScope sForm) (by decide +kernel))
            (fun _ _ _ _ _ => pg_name (i := 8) scForm.nd rfl (Or.inl rfl)) (fun _ _ _ _ _ => pts_one (pt_cmpR op_ne (pe_ix (ixL K) (pe_ix (ixL K) (pv 3) (pv 8) (fun _ _ => rfl)) (pv 5) (fun _ _ => rfl)) pe_int (nomark _))) (fun _ _ _ _ _ => pv 8))
        (C8.pss_cut (ps_if (pt_cmpR op_gt (pe_callB call_len_seq (by rfl) ml PySem.boot_len (pa_cons (pv 6) pa_nil)) pe_int (nomark _))
            (pss_cons (ps_set (i := 2) scForm.nd rfl (.inr rfl) (pe_bm PySem.F.plainAttrs_list PySem.F.slot_list_pop PySem.F.type_list_pop mt_popAt (pv 3) (pa_cons (pe_ix ix_list (pv 6) pe_int (fun _ _ => rfl)) pa_nil)))
            (pss_cons (ps_set (i := 7) scForm.nd rfl (.inr rfl) (pe_call GB hr (by rfl) mB kB bB .nil pass0 (pa_cons (pv 0) (pa_cons (pe_ix ix_list (pv 2) (pv 5) (fun _ _ => rfl)) pa_nil))))
            (pss_cons (ps_set (i := 2) scForm.nd rfl (.inr rfl) (pe_lc (own := [("_law_number", 9)]) (g := gName 9) (tt := tYes) (by rfl) scForm.nd (pi_list (pv 2)) (blkOk_by (own := [("_law_number", 9)]) (N := nForm) (sc := defScope sForm) (by decide +kernel))
              (fun _ _ _ _ _ => pg_name (i := 9) scForm.nd rfl (Or.inl rfl)) (fun _ _ _ _ _ => pts_nil) (fun _ _ _ _ _ => pe_op op_mod (pe_op op_mul (pv 7) (pv 9)) (pv 0))))
            (pss_cons (ps_set (i := 3) scForm.nd rfl (.inr rfl) (pe_lc (own := [("_law_other", 10)]) (g := gName 10) (tt := tYes) (by rfl) scForm.nd (pi_list (pv 3)) (blkOk_by (own := [("_law_other", 10)]) (N := nForm) (sc := defScope sForm) (by decide +kernel))
              (fun _ _ _ _ _ => pg_name (i := 10) scForm.nd rfl (Or.inl rfl)) (fun _ _ _ _ _ => pts_nil) (fun _ _ _ _ _ => pe_call GL hr (by rfl) mL kL bL .nil pass0 (pa_cons (pv 0) (pa_cons (pv 10) (pa_cons (pe_ix (ixL K) (pv 10) (pv 5) (fun _ _ => rfl)) (pa_cons (pv 2) pa_nil)))))))
            (pss_one (ps_set (i := 4) scForm.nd rfl (.inl rfl) (pe_op op_cat (pe_lc (own := [("_law_other", 10)]) (g := gName 10) (tt := tYes) (by rfl) scForm.nd (pi_list (pv 4)) (blkOk_by (own := [("_law_other", 10)]) (N := nForm) (sc := defScope sForm) (by decide +kernel))
              (fun _ _ _ _ _ => pg_name (i := 10) scForm.nd rfl (Or.inl rfl)) (fun _ _ _ _ _ => pts_nil) (fun _ _ _ _ _ => pe_call GL hr (by rfl) mL kL bL .nil pass0 (pa_cons (pv 0) (pa_cons (pv 10) (pa_cons (pe_ix (ixL K) (pv 10) (pv 5) (fun _ _ => rfl)) (pa_cons (pv 2) pa_nil)))))) (pe_lst (pa_cons (pv 2) pa_nil)))))))))
            pss_nil)
        (pss_one (ps_set (i := 5) scForm.nd rfl (.inr rfl) (pe_op op_add (pv 5) pe_int))))))
      (pss_one (ps_ret (pv 4)))))), ?_⟩
    have two := hp.two
    have le := hp.le
    have hv := inv_is hp
    -- left
    refine ⟨_, rfl, a, rfl, ⟨_, SqL.of hT.at_⟩, fun la nla => ?_⟩
    refine lc_it (walk_list (K := K) (a := a) (xs := rf rs)) (fun i H' => ∃ qs, Mt H la [] M i H' qs) ⟨[], Mt.start nla⟩ (fun i H' _ ⟨qs, m⟩ => (m.same.seq (SqL.of hT.at_))) (fun i x H1 H2 hi ⟨qs, m⟩ y => ?_) (fun H2 ⟨ls, m⟩ => ?_)
    · obtain ⟨rfl, hx⟩ := y
      obtain ⟨r, hrr, rfl⟩ := rf_inv hx
      obtain ⟨mm, hm⟩ := get_of (l := M) (i := i) (by have := get_lt hrr; have := hT.len; omega)
      have hrow : IL H2 r mm := m.same _ _ (hT.row i r mm hrr hm)
      refine ⟨rfl, ?_⟩
      refine t_yes ?_
      refine ⟨_, rfl, r, _, rfl, .inl (IL.sq hrow), fun l nl => ?_⟩
      obtain ⟨acc, e1, e2, e3⟩ := m.step nla (fun r hr => by simp at hr) (same_new nl) hm upd_same (.inr nl) (by omega)
      exact ⟨acc, e1, e2, _, e3⟩
    have hlen : (rf rs).length = M.length := by rw [List.length_map, hT.len]
    have tl := m.tab hlen
    have sm2 := m.same
    -- found = []
    refine ⟨Nat.zero_le _, fun fa nfa => ?_⟩
    have start : FormI H (L2.upd H2 fa (.lst [])) fa la [] ls [] M := ⟨same_upd (same_none sm2 nfa) sm2, ⟨upd_same, rfl, fun i r mm hr => by simp at hr⟩, tl.same (same_new nfa), same_none sm2 nfa, nla, (fun e => by rw [e, tl.at_] at nfa; cases nfa), fun r hr => by simp at hr⟩
    refine step_name ?_
    dsimp only
    refine step_seq ?_
    refine step_asgC ?_
    dsimp only
    refine step_seq ?_
    show tWhile _ _ _ [some (.int p), some (.ref a), none, some (.ref la), some (.ref fa), some (.int ((0 : Nat) : Int)), none, none, none, none, none] _
    refine wh (fun m σ H' => ∃ fa la fs ls, ∃ pl : Nat, ∃ y2 y6 y7 y8 y9 y10, σ = [some (.int p), some (.ref a), y2, some (.ref la), some (.ref fa), some (.int (pl : Int)), y6, y7, y8, y9, y10] ∧ pl ≤ n ∧ m = n - pl ∧ FormI H H' fa la fs ls (runM p (invM p) M pl).1 (runM p (invM p) M pl).2)
      _ ⟨fa, la, [], ls, 0, none, none, none, none, none, none, rfl, Nat.zero_le _, rfl, start⟩ fun mm σ H' hW => ?_
    obtain ⟨fa, la, fs, ls, pl, y2, y6, y7, y8, y9, y10, rfl, hpl, rfl, inv⟩ := hW
    obtain ⟨lsR, R⟩ := run_all two hv hM pl hpl
    have lens := runM_len (p := p) (inv := invM p) (rows := M) pl
    have est : runM p (invM p) M (pl + 1) = stepM p (invM p) pl (runM p (invM p) M pl) := rfl
    have stop := fun h d => runM_stop (p := p) (inv := invM p) (rows := M) (k := pl) h d
    have lowe := lowM_len (p := p) (n := n) (inv := invM p) M hM
    have wfL := R.wf
    have tl2 := inv.tl
    generalize hS : runM p (invM p) M pl = S at *
    obtain ⟨Fm, L⟩ := S
    dsimp only at *
    have lenL : (rf ls).length = L.length := by rw [List.length_map, tl2.len]
    have lenl := tl2.len
    refine ⟨la, ls, L, pl, n, rfl, rfl, tl2, fun m hm => (wfL m hm).len, ite2 (fun c => ?_) (fun c => ?_)⟩
    · have c' := of_decide_eq_true c
      refine ⟨_, fun σ' H' h => h, ?_⟩
      -- some
      refine ⟨_, rfl, la, _, rfl, .inl (SqL.of tl2.at_), _, rfl, by omega, by rw [lenL]; omega, fun D hD => ?_⟩
      refine lc_range (lo := 0) (n := _) (fun i H1 => Same H' H1 ∧ H1 D = some (.lst ((nzs pl L i).map fun (k : Nat) => V.int (k : Int)))) ⟨same_new hD, upd_same⟩ (fun i H1 hi hW => ?_) (fun H1 hW => ?_)
      · obtain ⟨sm, e⟩ := hW
        rw [Int.toNat_natCast, lenL] at hi
        obtain ⟨m, hm⟩ := get_of (l := L) (i := i) hi
        obtain ⟨r, hrr⟩ := get_of (l := ls) (i := i) (by omega)
        have tl1 := tl2.same sm
        have hrow := tl1.row i r m hrr hm
        have iz : (0 : Int) + (i : Int) = (i : Int) := Int.zero_add _
        rw [iz]
        refine ⟨rfl, ?_⟩
        refine ⟨_, rfl, _, rfl, la, _, _, _, rfl, rfl, SqL.of tl1.at_, atI_nat (rf_get hrr), _, rfl, r, _, _, _, rfl, rfl, IL.sq hrow, atI_nat (iv_ent (by rw [(wfL m (List.mem_of_getElem? hm)).len]; omega)), rfl, _, rfl, ?_⟩
        have gm : L.getD i [] = m := getD_of hm
        have ns := nzs_succ (pl := pl) (i := i) (L := L)
        rw [gm] at ns
        rw [← decide_not]
        refine ite2 (fun c => ?_) (fun c => ?_)
        · have c1 : ent m pl ≠ 0 := fun z => of_decide_eq_true c (congrArg V.int z)
          rw [if_pos c1] at ns
          refine ⟨_, rfl, _, e, by rw [List.length_map]; exact small1000 (by have := nzs_len (pl := pl) (i := i) (L := L); omega), same_upd hD sm, ?_⟩
          rw [upd_same, ns, List.map_append]
          rfl
        · have c1 : ¬ ent m pl ≠ 0 := fun z => c (decide_eq_true fun e => z (V.int.inj e))
          rw [if_neg c1, List.append_nil] at ns
          exact ⟨sm, by rw [ns]; exact e⟩
      · obtain ⟨sm, e⟩ := hW
        rw [Int.toNat_natCast, lenL] at e
        refine ⟨fun σ' H2 => ∃ fa la fs ls y2 y6 y7 y8 y9 y10, σ' = [some (.int p), some (.ref a), y2, some (.ref la), some (.ref fa), some (.int (pl : Int)), y6, y7, y8, y9, y10] ∧ FormI H H2 fa la fs ls (runM p (invM p) M (pl + 1)).1 (runM p (invM p) M (pl + 1)).2, ?_, fun σ' H2 hW => ?_⟩
        · refine ⟨_, rfl, D, _, rfl, .inl (SqL.of e), _, _, rfl, rfl, _, rfl, ?_⟩
          rw [List.length_map]
          cases hnz : nzs pl L L.length with
          | nil =>
            refine ite2 (fun c2 => ?_) (fun c2 => ?_)
            · have := of_decide_eq_true c2
              simp at this
            · have est2 : runM p (invM p) M (pl + 1) = (Fm, L) := by
                rw [est]
                unfold stepM
                dsimp only
                rw [pick_nil hnz]
              rw [est2]
              exact ⟨fa, la, fs, ls, _, _, _, _, _, _, rfl, inv.same.trans sm, inv.tf.same sm, inv.tl.same sm, inv.nf, inv.nl, inv.ne, inv.fresh⟩
          | cons j t =>
            obtain ⟨hjl, hne, hpick⟩ := pick_cons hnz
            rw [hnz] at e
            refine ite2 (fun c2 => ?_) (fun c2 => absurd (decide_eq_true (by rw [List.length_cons]; omega)) c2)
            obtain ⟨m0, hm0⟩ := get_of hjl
            obtain ⟨r0, hr0⟩ := get_of (l := ls) (i := j) (by omega)
            have gm : L.getD j [] = m0 := getD_of hm0
            rw [gm] at hne
            have tl1 := tl2.same sm
            have hrow := tl1.row j r0 m0 hr0 hm0
            have wm0 := wfL m0 (List.mem_of_getElem? hm0)
            have est2 : runM p (invM p) M (pl + 1) = (clearM p pl (mulR p (invM p (ent m0 pl)) m0) Fm ++ [mulR p (invM p (ent m0 pl)) m0], clearM p pl (mulR p (invM p (ent m0 pl)) m0) (L.eraseIdx j)) := by
              rw [est]
              unfold stepM
              dsimp only
              rw [hpick]
              dsimp only
              rw [gm]
            rw [est2]
            dsimp only
            refine ⟨_, rfl, .inl ⟨rfl, _, SqL.of tl1.at_⟩, _, rfl, D, _, _, _, rfl, rfl, SqL.of e, atI_nat (j := 0) rfl, la, _, (j : Int), j, _, rfl, rfl, tl1.at_, by omega, by omega, seqIx (by rw [lenL]; exact hjl), rf_get hr0, ?_⟩
            have er := tl1.erase (j := j) (by omega)
            have hr0m : r0 ∈ ls := List.mem_of_getElem? hr0
            have cls : ∃ x xs, ls = x :: xs := by
              cases ls with
              | nil => simp at hr0m
              | cons x xs => exact ⟨x, xs, rfl⟩
            have neR : ∀ (r : Addr) (m : List Int), IL H1 r m → r ≠ la := fun r m h => by
              obtain ⟨x, xs, rfl⟩ := cls
              exact rf_ne tl1.at_ h
            have tf0 := inv.tf.same sm
            have sH1 : Same H (L2.upd H1 la (.lst ((rf ls).eraseIdx j))) := same_upd inv.nl (inv.same.trans sm)
            have tf1 : Tab (L2.upd H1 la (.lst ((rf ls).eraseIdx j))) fa fs Fm := tf0.upd inv.ne fun r hr => by
              obtain ⟨m, _, hm⟩ := IL.ref tf0 hr
              exact neR r m hm
            have row1 : IL (L2.upd H1 la (.lst ((rf ls).eraseIdx j))) r0 m0 := by
              show (L2.upd H1 la _) r0 = _
              rw [upd_ne (neR r0 m0 hrow)]
              exact hrow
            generalize L2.upd H1 la (.lst ((rf ls).eraseIdx j)) = H3 at *
            have em := wm0.ent (show pl < n by omega)
            obtain ⟨v1, v2, _⟩ := inv_ok hp (show 0 < ent m0 pl by omega) em.2
            -- back
            refine ⟨_, rfl, _, rfl, _, rfl, r0, _, _, _, rfl, rfl, IL.sq row1, atI_nat (iv_ent (by rw [wm0.len]; omega)), ⟨p, ent m0 pl, rfl, hp, by omega, em.2, fun H4 s4 => ?_⟩⟩
            have wrow : Wf p n (mulR p (invM p (ent m0 pl)) m0) := mulR_wf (by omega) wm0
            have row4 := s4 _ _ row1
            -- row
            refine ⟨_, rfl, r0, rfl, ⟨_, IL.sq row4⟩, fun D2 hD2 => lc_it (walk_list (K := K) (a := r0) (xs := iv m0)) (fun i H' => Mk H4 D2 (mulR p (invM p (ent m0 pl)) m0) i H') (Mk.start hD2) (fun i H' _ mk => (mk.same.seq (IL.sq row4))) (fun i x H5 H6 hi mk y => ?_) (fun H5 mk => ?_)⟩
            · obtain ⟨rfl, hx⟩ := y
              obtain ⟨z, hz, rfl⟩ := iv_inv hx
              refine ⟨rfl, ?_⟩
              refine t_yes ?_
              refine ⟨_, rfl, _, rfl, _, _, rfl, rfl, .inl ⟨by omega, by omega⟩, _, rfl, _, _, rfl, rfl, (by show 0 < p; omega), ?_⟩
              exact mk.step hD2 (Same.refl _) (by unfold mulR; rw [List.getElem?_map, hz]; rfl) (by rw [wrow.len]; omega)
            have i5 := mk.done (by unfold mulR; rw [List.length_map, List.length_map])
            have s35 := s4.trans mk.same
            generalize hrowe : mulR p (invM p (ent m0 pl)) m0 = row at *
            have lenE : (L.eraseIdx j).length ≤ L.length := List.length_eraseIdx_le _ _
            have te := er.same s35
            have tf5 := tf1.same s35
            have wE : Wfs p n (L.eraseIdx j) := fun m hm => wfL m (List.mem_of_mem_eraseIdx hm)
            have wF : Wfs p n Fm := R.low.wf
            -- left
            refine ⟨_, rfl, la, rfl, ⟨_, SqL.of te.at_⟩, fun la2 nla2 => ?_⟩
            refine lc_it (walk_list (K := K) (a := la) (xs := rf (ls.eraseIdx j))) (fun i H' => ∃ qs, Mt H5 la2 [] (clearM p pl row (L.eraseIdx j)) i H' qs) ⟨[], Mt.start nla2⟩ (fun i H' _ ⟨qs, m⟩ => (m.same.seq (SqL.of te.at_))) (fun i x H6 H7 hi ⟨qs, m⟩ y => ?_) (fun H6 ⟨ls2, m6⟩ => ?_)
            · obtain ⟨rfl, hx⟩ := y
              obtain ⟨r, hrr, rfl⟩ := rf_inv hx
              obtain ⟨mm, hm⟩ := get_of (l := L.eraseIdx j) (i := i) (by have := get_lt hrr; have := te.len; omega)
              have hrow := m.same _ _ (te.row i r mm hrr hm)
              have wmm := wE mm (List.mem_of_getElem? hm)
              have ee := wmm.ent (show pl < n by omega)
              refine ⟨rfl, ?_⟩
              refine t_yes ?_
              refine ⟨_, rfl, _, rfl, _, rfl, _, rfl, r, _, _, _, rfl, rfl, IL.sq hrow, atI_nat (iv_ent (by rw [wmm.len]; omega)), _, rfl, ⟨p, ent mm pl, n, r, D2, mm, row, rfl, by omega, by omega, by omega, ee.1, by omega, hrow, wmm, m.same _ _ i5, wrow, fun H8 q8 s8 n8 i8 => ?_⟩⟩
              obtain ⟨acc, e1, e2, e3⟩ := m.step nla2 (fun r hr => by simp at hr) s8 (clearM_get hm) i8 (.inr n8) (by rw [clearM_len]; omega)
              exact ⟨acc, e1, e2, _, e3⟩
            have tl6 := m6.tab (by rw [List.length_map, clearM_len]; exact te.len)
            have i6 := m6.same _ _ i5
            have tf6 := tf5.same m6.same
            -- found
            refine ⟨_, rfl, fa, rfl, ⟨_, SqL.of tf6.at_⟩, fun f2 nf2 => ?_⟩
            refine lc_it (walk_list (K := K) (a := fa) (xs := rf fs)) (fun i H' => ∃ qs, Mt H6 f2 [] (clearM p pl row Fm) i H' qs) ⟨[], Mt.start nf2⟩ (fun i H' _ ⟨qs, m⟩ => (m.same.seq (SqL.of tf6.at_))) (fun i x H7 H8 hi ⟨qs, m⟩ y => ?_) (fun H7 ⟨fs2, m7⟩ => ?_)
            · obtain ⟨rfl, hx⟩ := y
              obtain ⟨r, hrr, rfl⟩ := rf_inv hx
              obtain ⟨mm, hm⟩ := get_of (l := Fm) (i := i) (by have := get_lt hrr; have := tf6.len; omega)
              have hrow := m.same _ _ (tf6.row i r mm hrr hm)
              have wmm := wF mm (List.mem_of_getElem? hm)
              have ee := wmm.ent (show pl < n by omega)
              refine ⟨rfl, ?_⟩
              refine t_yes ?_
              refine ⟨_, rfl, _, rfl, _, rfl, _, rfl, r, _, _, _, rfl, rfl, IL.sq hrow, atI_nat (iv_ent (by rw [wmm.len]; omega)), _, rfl, ⟨p, ent mm pl, n, r, D2, mm, row, rfl, by omega, by omega, by omega, ee.1, by omega, hrow, wmm, m.same _ _ i6, wrow, fun H9 q9 s9 n9 i9 => ?_⟩⟩
              obtain ⟨acc, e1, e2, e3⟩ := m.step nf2 (fun r hr => by simp at hr) s9 (clearM_get hm) i9 (.inr n9) (by rw [clearM_len]; omega)
              exact ⟨acc, e1, e2, _, e3⟩
            have tf7 := m7.tab (by rw [List.length_map, clearM_len]; exact tf6.len)
            have i7 := m7.same _ _ i6
            have tl7 := tl6.same m7.same
            refine ⟨_, rfl, (by show 1 ≤ sizeLine; decide), fun l1 nl1 => ?_⟩
            have s8 : Same H7 (L2.upd H7 l1 (.lst [.ref D2])) := same_new nl1
            have tf8 := tf7.same s8
            have tl8 := tl7.same s8
            have i8 := s8 _ _ i7
            have lf : fs2.length = Fm.length := by rw [tf7.len, clearM_len]
            refine ⟨f2, l1, _, _, rfl, rfl, tf8.at_, upd_same, by rw [List.length_map, lf]; exact Nat.le_of_lt (small1000 (by simp; omega)), fun f3 nf3 => ?_⟩
            generalize L2.upd H7 l1 (.lst [.ref D2]) = H8 at *
            have sAll : Same H H8 := ((sH1.trans s35).trans m6.same).trans (m7.same.trans s8)
            refine ⟨f3, la2, fs2 ++ [D2], ls2, _, _, _, _, _, _, rfl, same_upd (same_none sAll nf3) sAll, ⟨?_, ?_, fun t r m hr hm => ?_⟩, tl8.same (same_new nf3), same_none sAll nf3, same_none (sH1.trans s35) nla2, fun e => ?_, fun r hr => ?_⟩
            · rw [upd_same]
              simp
            · rw [List.length_append, List.length_append, lf, clearM_len]
              rfl
            · have s9 : Same H8 (L2.upd H8 f3 (.lst (rf fs2 ++ [.ref D2]))) := same_new nf3
              by_cases ht : t < fs2.length
              · rw [List.getElem?_append_left ht] at hr
                rw [List.getElem?_append_left (by rw [clearM_len]; omega)] at hm
                exact s9 _ _ (tf8.row t r m hr hm)
              · have ht2 := get_lt hr
                rw [List.length_append, List.length_singleton] at ht2
                have et : t = fs2.length := by omega
                rw [List.getElem?_append_right (by omega), et, Nat.sub_self] at hr
                rw [List.getElem?_append_right (by rw [clearM_len]; omega), et, lf, clearM_len, Nat.sub_self] at hm
                cases Option.some.inj hr
                cases Option.some.inj hm
                exact s9 _ _ i8
            · rw [e, tl8.at_] at nf3
              cases nf3
            · rcases List.mem_append.mp hr with h | h
              · obtain ⟨t, ht⟩ := List.getElem?_of_mem h
                rcases m7.src t r ht with h2 | h2
                · simp at h2
                · exact same_none ((sH1.trans s35).trans m6.same) h2
              · rw [List.mem_singleton.mp h]
                exact same_none (sH1.trans s4) hD2
        · obtain ⟨fa, la, fs, ls, y2, y6, y7, y8, y9, y10, rfl, inv2⟩ := hW
          exact ⟨_, rfl, _, _, rfl, rfl, n - (pl + 1), by omega, fa, la, fs, ls, pl + 1, y2, y6, y7, y8, y9, y10, rfl, by omega, rfl, inv2⟩
    · have c' : ¬ (0 < L.length ∧ pl < n) := of_decide_eq_false (Bool.eq_false_iff.mpr c)
      have fin : lowM p (invM p) M = Fm := by
        rw [lowe]
        by_cases h0 : pl < n
        · have hL : L = [] := by
            cases L with
            | nil => rfl
            | cons x xs => exact absurd ⟨by rw [List.length_cons]; omega, h0⟩ c'
          have z := stop hL (n - pl)
          rw [show pl + (n - pl) = n by omega] at z
          rw [z]
        · have : pl = n := by omega
          rw [← this, hS]
      refine ⟨_, rfl, q H' fa fs inv.same inv.nf ?_ inv.fresh⟩
      rw [fin]
      exact inv.tf
end

/-! ### inverse -/
section
variable {P : Program} {w : World} {K : PySem.W.Frag} {mg : Str → Option Value} {base : Heap}
abbrev sInv : Stmt := topS 1

theorem scInv : FnScope ["p", "rest", "back"] ["p", "rest"] (defScope sInv) := ⟨rfl, rfl, rfl, by decide +kernel, rfl, by decide +kernel, by decide +kernel⟩

def spInv : Sp := fun vs H Q _ => ∃ (p r : Int), vs = [.int p, .int r] ∧ P5 p ∧ 0 < r ∧ r < p ∧ Q (.int (invM p r)) H

theorem ok_inv {f : Addr} {fd : FuncData} {k : Nat} (F : Fun K "inverse" "inverse" sInv f fd) : FnOk P w K mg base CX0 (k + 1) f fd ["p", "rest"] spInv := by
  refine F.ok scInv (fun vs H Q E h => ?_) (fun cdv A outer s H vs Q E hr h => ?_)
  · obtain ⟨p, r, rfl, _⟩ := h
    rfl
  · obtain ⟨p, r, rfl, hp, h0, h1, q⟩ := h
    refine ⟨_, pss_cons (ps_set (i := 2) scInv.nd rfl (.inl rfl) pe_int)
      (pss_cons (ps_while PassesOwn.never (pt_cmpR op_ne (pe_op op_mod (pe_op op_mul (pv 2) (pv 1)) (pv 0)) pe_int (nomark _)) (pss_one (ps_aug (i := 2) scInv.nd rfl (.inl rfl) pe_int ip_add)))
      (pss_one (ps_ret (pv 2)))), ?_⟩
    obtain ⟨i1, i2, i3⟩ := inv_ok hp h0 h1
    have le := hp.le
    have two := hp.two
    refine wh (fun (m : Nat) (σ : L2.St) (H' : Hp) => ∃ b : Int, σ = [some (.int p), some (.int r), some (.int b)] ∧ H' = H ∧ 1 ≤ b ∧ b ≤ invM p r ∧ m = (p - b).toNat) _ ⟨1, rfl, rfl, by omega, by omega, rfl⟩ fun m σ H' hW => ?_
    obtain ⟨b, rfl, rfl, b1, b2, rfl⟩ := hW
    refine ⟨_, rfl, _, rfl, _, _, rfl, rfl, .inl ⟨by omega, by omega⟩, _, rfl, _, _, rfl, rfl, (by show (0 : Int) < p; omega), rfl, _, rfl, ?_⟩
    rw [← decide_not]
    refine ite2 (fun c => ?_) (fun c => ?_)
    · have c' := of_decide_eq_true c
      have nb : b ≠ invM p r := fun e => c' (congrArg V.int ((i3 b (by omega) (by omega)).mpr e))
      refine ⟨_, fun σ' H' h => h, _, rfl, _, _, rfl, rfl, (p - (b + 1)).toNat, by omega, b + 1, rfl, rfl, by omega, by omega, rfl⟩
    · have c' : b * r % p = 1 := by
        have z := of_decide_eq_false (Bool.eq_false_iff.mpr c)
        exact V.int.inj (Classical.not_not.mp z)
      have e := (i3 b (by omega) (by omega)).mp c'
      refine ⟨_, rfl, ?_⟩
      rw [e]
      exact q
end

/-! ### multiplied_by -/
section
variable {P : Program} {w : World} {K : PySem.W.Frag} {mg : Str → Option Value} {base : Heap}
abbrev sMul : Stmt := topS 2

theorem scMul : FnScope ["p", "rest", "rests", "number"] ["p", "rest", "rests"] (defScope sMul) := ⟨rfl, rfl, rfl, by decide +kernel, rfl, by decide +kernel, by decide +kernel⟩

def spMul : Sp := fun vs H Q _ => ∃ (p r : Int) (a : Addr) (m : List Int), vs = [.int p, .int r, .ref a] ∧ 0 < p ∧ 0 ≤ r ∧ r < 1000 ∧ IL H a m ∧ m.length ≤ 1000 ∧ ∀ H' q, Same H H' → H q = none → IL H' q (mulR p r m) → Q (.ref q) H'

theorem ok_mul {f : Addr} {fd : FuncData} {k : Nat} (F : Fun K "multiplied_by" "multiplied_by" sMul f fd) : FnOk P w K mg base CX0 (k + 1) f fd ["p", "rest", "rests"] spMul := by
  refine F.ok scMul (fun vs H Q E h => ?_) (fun cdv A outer s H vs Q E hr h => ?_)
  · obtain ⟨p, r, a, m, rfl, _⟩ := h
    rfl
  · obtain ⟨p, r, a, m, rfl, hp, h0, h1, hm, hl, q⟩ := h
    refine ⟨_, pss_one (ps_ret (pe_lc (own := [("number", 3)]) (g := gName 3) (tt := tYes) (by rfl) scMul.nd (pi_list (pv 2)) (blkOk_by (own := [("number", 3)]) (N := ["p", "rest", "rests", "number"]) (sc := defScope sMul) (by decide +kernel))
      (fun _ _ _ _ _ => pg_name (i := 3) scMul.nd rfl (Or.inl rfl)) (fun _ _ _ _ _ => pts_nil) (fun _ _ _ _ _ => pe_op op_mod (pe_op op_mul (pv 1) (pv 3)) (pv 0)))), ?_⟩
    refine ⟨_, rfl, a, rfl, ⟨_, IL.sq hm⟩, fun D hD => lc_it (walk_list (K := K) (a := a) (xs := iv m)) (fun i H' => Mk H D (mulR p r m) i H') (Mk.start hD) (fun i H' _ mk => (mk.same.seq (IL.sq hm))) (fun i x H1 H2 hi mk y => ?_) (fun H' mk => ?_)⟩
    · obtain ⟨rfl, hx⟩ := y
      obtain ⟨z, hz, rfl⟩ := iv_inv hx
      refine ⟨rfl, ?_⟩
      refine t_yes ?_
      refine ⟨_, rfl, _, rfl, _, _, rfl, rfl, .inl ⟨by omega, by omega⟩, _, rfl, _, _, rfl, rfl, hp, ?_⟩
      exact mk.step hD (Same.refl _) (by unfold mulR; rw [List.getElem?_map, hz]; rfl) (by unfold mulR; rw [List.length_map]; exact hl)
    · exact q H' D mk.same hD (mk.done (by unfold mulR; rw [List.length_map, List.length_map]))
end

/-! ### mixture -/
section
variable {P : Program} {w : World} {K : PySem.W.Frag} {mg : Str → Option Value} {base : Heap}
abbrev sMix : Stmt := topS 3
abbrev nMix : List Str := ["p", "shares", "rows", "length", "place", "share", "row"]
theorem scMix : FnScope nMix ["p", "shares", "rows", "length"] (defScope sMix) := ⟨rfl, rfl, rfl, by decide +kernel, rfl, by decide +kernel, by decide +kernel⟩
def spMix : Sp := fun vs H Q _ => ∃ (p : Int) (n : Nat) (a b : Addr) (cs : List Int) (rs : List Addr) (M : List Row), vs = [.int p, .ref a, .ref b, .int (n : Int)] ∧ 0 < p ∧ IL H a cs ∧ (∀ c ∈ cs, 0 ≤ c ∧ c < 1000) ∧ Tab H b rs M ∧ (∀ m ∈ M, m.length = n) ∧ cs.length = M.length ∧ M.length ≤ 1000 ∧ n ≤ 1000 ∧
  ∀ H' q, Same H H' → H q = none → IL H' q (mixM p cs M n) → Q (.ref q) H'
theorem ok_mix {f : Addr} {fd : FuncData} {k : Nat} (F : Fun K "mixture" "mixture" sMix f fd) (mr : mg "range" = none) (ms : mg "sum" = none) (mz : mg "zip" = none) : FnOk P w K mg base CX0 (k + 1) f fd ["p", "shares", "rows", "length"] spMix := by
  refine F.ok scMix (fun vs H Q E h => ?_) (fun cdv A outer s H vs Q E hr h => ?_)
  · obtain ⟨p, n, a, b, cs, rs, M, rfl, _⟩ := h
    rfl
  · obtain ⟨p, n, a, b, cs, rs, M, rfl, hp, hc, hcs, hT, hM, hl, hML, hn, q⟩ := h
    refine ⟨_, pss_one (ps_ret (pe_lc (own := [("place", 4)]) (g := gName 4) (tt := tYes) (by rfl) scMix.nd (pi_range1 rfl mr (pa_cons (pv 3) pa_nil)) (blkOk_by (own := [("place", 4)]) (N := nMix) (sc := defScope sMix) (by decide +kernel))
      (fun _ _ _ _ _ => pg_name (i := 4) scMix.nd rfl (Or.inr rfl)) (fun _ _ _ _ _ => pts_nil)
      (fun _ _ _ _ _ => pe_op op_mod (pe_callB (cSum K rfl rfl) (by rfl) ms (by decide +kernel) (pa_cons
        (pe_lc (own := [("share", 5), ("row", 6)]) (g := gTup K 2 (gCons (gName 5) (gCons (gName 6) gNil))) (tt := tYes) (by rfl) scMix.nd (piZ K rfl (by rfl) mz (pa_cons (pv 1) (pa_cons (pv 2) pa_nil))) (blkOk_by (own := [("share", 5), ("row", 6)]) (N := nMix) (sc := relS (lcScope (stE (stN (defBody sMix) 0))) (defScope sMix)) (by decide +kernel))
          (fun _ _ _ _ _ => pg_tup rfl (pgs_cons (pg_name (i := 5) scMix.nd rfl (Or.inl rfl)) (pgs_cons (pg_name (i := 6) scMix.nd rfl (Or.inl rfl)) pgs_nil))) (fun _ _ _ _ _ => pts_nil)
          (fun _ _ _ _ _ => pe_op op_mul (pv 5) (pe_ix (ixL K) (pv 6) (pv 4) (fun _ _ => rfl)))) pa_nil)) (pv 0)))), ?_⟩
    refine ⟨_, rfl, (n : Int), rfl, by omega, by omega, fun D hD => ?_⟩
    refine lc_range (lo := 0) (n := _) (fun i H' => Mk H D (mixM p cs M n) i H') (Mk.start hD) (fun i H1 hi mk => ?_) (fun H' mk => ?_)
    · rw [Int.toNat_natCast] at hi
      have iz : (0 : Int) + (i : Int) = (i : Int) := Int.zero_add _
      rw [iz]
      refine ⟨rfl, ?_⟩
      refine t_yes ?_
      have c1 := mk.same _ _ hc
      have t1 := hT.same mk.same
      refine ⟨_, rfl, _, rfl, a, b, _, _, rfl, IL.sq c1, SqL.of t1.at_, fun D2 hD2 => ?_⟩
      refine lc_it (walk_zip (K := K) (a := a) (b := b) (xs := iv cs) (ys := rf rs) (n := M.length) (by rw [List.length_map, List.length_map, hl, t1.len, Nat.min_self])) (fun j H' => Mk H1 D2 (List.zipWith (fun c r => c * ent r i) cs M) j H') (Mk.start hD2) (fun j H' _ mk2 => ⟨mk2.same.seq (IL.sq c1), mk2.same.seq (SqL.of t1.at_)⟩) (fun j x H3 H4 hj mk2 y => ?_) (fun H' mk2 => ?_)
      · obtain ⟨T, x1, x2, rfl, nT, rfl, g1, g2⟩ := y
        obtain ⟨z, hz, rfl⟩ := iv_inv g1
        obtain ⟨r, hrr, rfl⟩ := rf_inv g2
        obtain ⟨m, hm⟩ := get_of (l := M) (i := j) hj
        have hrow := mk2.same _ _ (t1.row j r m hrr hm)
        have sT : Same H3 (L2.upd H3 T (.tup [.int z, .ref r])) := same_new nT
        have zb := hcs z (List.mem_of_getElem? hz)
        refine ⟨T, _, rfl, .inl (.inl upd_same), rfl, _, _, rfl, _, _, rfl, rfl, rfl, ?_⟩
        refine t_yes ?_
        refine ⟨_, rfl, _, rfl, _, rfl, r, _, _, _, rfl, rfl, IL.sq (sT _ _ hrow), atI_nat (iv_ent (by rw [hM m (List.mem_of_getElem? hm)]; exact hi)), _, _, rfl, rfl, .inl ⟨by omega, by omega⟩, ?_⟩
        exact mk2.step hD2 sT (by rw [List.getElem?_zipWith, hz, hm]) (by rw [List.length_zipWith]; omega)
      · have fin := mk2.done (by rw [List.length_zipWith, hl, Nat.min_self])
        refine ⟨D2, _, rfl, IL.sq fin, ?_⟩
        rw [zip_sum]
        refine ⟨_, rfl, _, _, rfl, rfl, hp, ?_⟩
        exact mk.step hD mk2.same (mixM_get hi) (by rw [mixM_len]; exact hn)
    · exact q H' D mk.same hD (mk.done (by rw [mixM_len, Int.toNat_natCast]))
end

/-! ### led -/
section
variable {P : Program} {w : World} {K : PySem.W.Frag} {mg : Str → Option Value} {base : Heap}
abbrev sLedP : Stmt := topS 12
abbrev nLedP : List Str := ["p", "row", "table"]
theorem scLedP : FnScope nLedP ["p", "row", "table"] (defScope sLedP) := ⟨rfl, rfl, rfl, by decide +kernel, rfl, by decide +kernel, by decide +kernel⟩
theorem ok_LedP {f f_mixture : Addr} {fd fd_mixture : FuncData} {k : Nat} (F : Fun K "led" "led" sLedP f fd)
    (G_mixture : FnOk P w K mg base CX0 (k + 1) f_mixture fd_mixture ["p", "shares", "rows", "length"] spMix) (b_mixture : Binds K fd_mixture ["p", "shares", "rows", "length"] []) (k_mixture : PySem.W.keepIn K (.ref f_mixture) = true) (m_mixture : mg "mixture" = some (.ref f_mixture))
    (m_len : mg "len" = none) : FnOk P w K mg base CX0 (k + 2) f fd ["p", "row", "table"] spLed := by
  refine F.ok scLedP (fun vs H Q E h => ?_) (fun cdv A outer s H vs Q E hr h => ?_)
  · obtain ⟨p, n, a, b, m, rs, M, rfl, _⟩ := h
    rfl
  · obtain ⟨p, n, a, b, m, rs, M, rfl, hp, hp2, ia, ra, tb, wM, lm, lM, lM2, hn, q⟩ := h
    refine ⟨_, pss_one (ps_ret (pe_call G_mixture hr (by rfl) m_mixture k_mixture b_mixture .nil pass0 (pa_cons (pv 0) (pa_cons (pv 1) (pa_cons (pv 2) (pa_cons (pe_callB (cLen K rfl) (by rfl) m_len PySem.boot_len (pa_cons (pe_ix (ixL K) (pv 2) pe_int (fun _ _ => rfl)) pa_nil)) pa_nil)))))), ?_⟩
    obtain ⟨m0, hm0⟩ := get_of (l := M) (i := 0) lM
    obtain ⟨r0, hr0⟩ := get_of (l := rs) (i := 0) (by rw [tb.len]; exact lM)
    have i0 := tb.row 0 r0 m0 hr0 hm0
    have w0 := wM m0 (List.mem_of_getElem? hm0)
    refine ⟨_, rfl, _, rfl, _, rfl, _, rfl, b, _, _, _, rfl, rfl, SqL.of tb.at_, atI_nat (j := 0) (rf_get hr0), r0, _, rfl, .inl (IL.sq i0), ?_⟩
    rw [List.length_map, w0.len]
    exact ⟨p, n, a, b, m, rs, M, rfl, hp, ia, fun c hc => by have := ra c hc; omega, tb, fun x hx => (wM x hx).len, lm, by omega, by omega, q⟩
end

/-! ### product -/
section
variable {P : Program} {w : World} {K : PySem.W.Frag} {mg : Str → Option Value} {base : Heap}
abbrev sPrdP : Stmt := topS 13
abbrev nPrdP : List Str := ["p", "one", "other", "row"]
theorem scPrdP : FnScope nPrdP ["p", "one", "other"] (defScope sPrdP) := ⟨rfl, rfl, rfl, by decide +kernel, rfl, by decide +kernel, by decide +kernel⟩
theorem ok_PrdP {f f_led : Addr} {fd fd_led : FuncData} {k : Nat} (F : Fun K "product" "product" sPrdP f fd)
    (G_led : FnOk P w K mg base CX0 (k + 2) f_led fd_led ["p", "row", "table"] spLed) (b_led : Binds K fd_led ["p", "row", "table"] []) (k_led : PySem.W.keepIn K (.ref f_led) = true) (m_led : mg "led" = some (.ref f_led))
     : FnOk P w K mg base CX0 (k + 3) f fd ["p", "one", "other"] spPrd := by
  refine F.ok scPrdP (fun vs H Q E h => ?_) (fun cdv A outer s H vs Q E hr h => ?_)
  · obtain ⟨p, n, m, a, b, rs, A, qs, B, rfl, _⟩ := h
    rfl
  · obtain ⟨p, n, m, a, b, rs, A, qs, B, rfl, hp, hp2, tA, wA, tB, wB, hm, lB, lB2, lA, hn, q⟩ := h
    refine ⟨_, pss_one (ps_ret (pe_lc (own := [("row", 3)]) (g := (gName 3)) (tt := tYes) (by rfl) scPrdP.nd (piL K rfl (pv 1)) (blkOk_by (own := [("row", 3)]) (N := nPrdP) (sc := (defScope sPrdP)) (by decide +kernel)) (fun _ _ _ _ _ => (pg_name (i := 3) scPrdP.nd rfl (Or.inl rfl))) (fun _ _ _ _ _ => pts_nil) (fun _ _ _ _ _ => (pe_call G_led hr (by rfl) m_led k_led b_led .nil pass0 (pa_cons (pv 0) (pa_cons (pv 3) (pa_cons (pv 2) pa_nil))))))), ?_⟩
    refine ⟨_, rfl, a, rfl, ⟨_, SqL.of tA.at_⟩, fun D hD => ?_⟩
    refine lc_it (walk_list (K := K) (a := a) (xs := rf rs)) (fun i H2 => ∃ us, Mw H D ((prodM p A B n).take i) H2 us) ⟨[], Mw.start hD⟩ (fun i H2 _ hW => ?_) (fun i x H2 H3 hi hW y => ?_) (fun H2 hW => ?_)
    · obtain ⟨us, mw⟩ := hW
      exact mw.same.seq (SqL.of tA.at_)
    · obtain ⟨rfl, hx⟩ := y
      obtain ⟨us, mw⟩ := hW
      obtain ⟨r, hr', rfl⟩ := rf_inv hx
      obtain ⟨row, hrow⟩ := get_of (l := A) (i := i) (by have := get_lt hr'; have := tA.len; omega)
      have ir : IL H3 r row := mw.same _ _ (tA.row i r row hr' hrow)
      have wr := wA row (List.mem_of_getElem? hrow)
      refine ⟨rfl, t_yes ?_⟩
      refine ⟨_, rfl, _, rfl, _, rfl, ⟨p, n, r, b, row, qs, B, rfl, hp, hp2, ir, wr.rng, tB.same mw.same, wB, by rw [wr.len, hm], lB, lB2, hn, fun H4 u s4 nu iu => ?_⟩⟩
      obtain ⟨acc, a1, a2, a3⟩ := mw.push hD s4 nu iu (by rw [List.length_take]; have := prodM_len (p := p) (n := n) (A := A) (B := B); omega)
      refine ⟨acc, a1, a2, us ++ [u], ?_⟩
      rw [List.take_add_one, show (prodM p A B n)[i]? = some (mixM p row B n) by unfold prodM; rw [List.getElem?_map, hrow]; rfl]
      exact a3
    · obtain ⟨us, mw⟩ := hW
      rw [List.length_map, tA.len, List.take_of_length_le (by rw [prodM_len]; exact Nat.le_refl _)] at mw
      exact q H2 D us mw.same hD mw.tab mw.fresh
end

/-! ### cleared -/
section
variable {P : Program} {w : World} {K : PySem.W.Frag} {mg : Str → Option Value} {base : Heap}
abbrev sClr : Stmt := topS 8

theorem scClr : FnScope ["p", "rows", "place", "by", "row", "number", "taken"] ["p", "rows", "place", "by"] (defScope sClr) := ⟨rfl, rfl, rfl, by decide +kernel, rfl, by decide +kernel, by decide +kernel⟩

def spClr : Sp := fun vs H Q _ => ∃ (p : Int) (n pl : Nat) (a b : Addr) (rs : List Addr) (M : List Row) (bm : Row), vs = [.int p, .ref a, .int (pl : Int), .ref b] ∧ 2 ≤ p ∧ p ≤ 11 ∧ n ≤ 1000 ∧ pl < n ∧ Tab H a rs M ∧ Wfs p n M ∧ M.length ≤ 1000 ∧ IL H b bm ∧ Wf p n bm ∧
  ∀ H' q qs, Same H H' → H q = none → Tab H' q qs (clearM p pl bm M) → (∀ (j : Nat) r, qs[j]? = some r → rs[j]? = some r ∨ H r = none) → (rs.Nodup → qs.Nodup) → q ∉ qs → Q (.ref q) H'

theorem ok_clr {f : Addr} {fd : FuncData} {k : Nat} (F : Fun K "cleared" "cleared" sClr f fd) (mz : mg "zip" = none) : FnOk P w K mg base CX0 (k + 1) f fd ["p", "rows", "place", "by"] spClr := by
  refine F.ok scClr (fun vs H Q E h => ?_) (fun cdv A outer s H vs Q E hr h => ?_)
  · obtain ⟨p, n, pl, a, b, rs, M, bm, rfl, _⟩ := h
    rfl
  · obtain ⟨p, n, pl, a, b, rs, M, bm, rfl, hp, hp2, hn, hpl, hT, hM, hML, hb, wb, q⟩ := h
    refine ⟨_, pss_one (ps_ret (pe_lc (own := [("row", 4)]) (g := gName 4) (tt := tYes) (by rfl) scClr.nd (pi_list (pv 1)) (blkOk_by (own := [("row", 4)]) (N := ["p", "rows", "place", "by", "row", "number", "taken"]) (sc := defScope sClr) (by decide +kernel))
      (fun _ _ _ _ _ => pg_name (i := 4) scClr.nd rfl (Or.inr rfl)) (fun _ _ _ _ _ => pts_nil)
      (fun s1 H1 C1 cl1 fp1 => pe_ifExp (pt_cmpR op_eq (pe_ix (ixL K) (pv 4) (pv 2) (fun _ _ => rfl)) pe_int (nomark _)) (pv 4)
        (pe_lc (own := [("number", 5), ("taken", 6)]) (g := gTup K 2 (gCons (gName 5) (gCons (gName 6) gNil))) (tt := tYes) (by rfl) scClr.nd (piZ K rfl (by rfl) mz (pa_cons (pv 4) (pa_cons (pv 3) pa_nil))) (blkOk_by (own := [("number", 5), ("taken", 6)]) (N := ["p", "rows", "place", "by", "row", "number", "taken"]) (sc := relS (lcScope (stE (stN (defBody sClr) 0))) (defScope sClr)) (by decide +kernel))
          (fun _ _ _ _ _ => pg_tup rfl (pgs_cons (pg_name (i := 5) scClr.nd rfl (Or.inl rfl)) (pgs_cons (pg_name (i := 6) scClr.nd rfl (Or.inl rfl)) pgs_nil))) (fun _ _ _ _ _ => pts_nil)
          (fun _ _ _ _ _ => pe_op op_mod (pe_op op_sub (pv 5) (pe_op op_mul (pe_ix (ixL K) (pv 4) (pv 2) (fun _ _ => rfl)) (pv 6))) (pv 0)))))), ?_⟩
    refine ⟨_, rfl, a, rfl, ⟨_, SqL.of hT.at_⟩, fun D hD => lc_it (walk_list (K := K) (a := a) (xs := rf rs)) (fun i H' => ∃ qs, Mt H D rs (clearM p pl bm M) i H' qs) ⟨[], Mt.start hD⟩ (fun i H' _ ⟨qs, mt⟩ => (mt.same.seq (SqL.of hT.at_))) (fun i x H1 H2 hi ⟨qs, mt⟩ y => ?_) (fun H' ⟨qs, mt⟩ => ?_)⟩
    · obtain ⟨rfl, hx⟩ := y
      obtain ⟨r, hr, rfl⟩ := rf_inv hx
      obtain ⟨m, hm⟩ := get_of (l := M) (i := i) (by have := get_lt hr; have := hT.len; omega)
      have hrow : IL H2 r m := mt.same _ _ (hT.row i r m hr hm)
      have wm := hM m (List.mem_of_getElem? hm)
      have hlm := wm.len
      have hlb := wb.len
      have gi := clearM_get (p := p) (pl := pl) (bm := bm) hm
      have em := wm.ent hpl
      refine ⟨rfl, ?_⟩
      refine t_yes ?_
      refine ⟨_, rfl, _, rfl, r, _, _, _, rfl, rfl, IL.sq hrow, atI_nat (iv_ent (by omega)), rfl, _, rfl, ?_⟩
      refine ite2 (fun c => ?_) (fun c => ?_)
      · have c0 : ent m pl = 0 := V.int.inj (of_decide_eq_true c)
        rw [c0, lessR_zero wm wb] at gi
        refine ⟨_, rfl, ?_⟩
        obtain ⟨acc, e1, e2, e3⟩ := mt.step hD (tab_tracked hT) (Same.refl _) gi hrow (.inl hr) (by unfold clearM; rw [List.length_map]; exact hML)
        exact ⟨acc, e1, e2, _, e3⟩
      · refine ⟨_, rfl, _, rfl, r, b, _, _, rfl, IL.sq hrow, IL.sq (mt.same _ _ hb), fun D2 hD2 => ?_⟩
        refine lc_it (walk_zip (K := K) (a := r) (b := b) (xs := iv m) (ys := iv bm) (n := n) (by rw [List.length_map, List.length_map, hlm, hlb, Nat.min_self])) (fun j H' => Mk H2 D2 (lessR p m (ent m pl) bm) j H') (Mk.start hD2) (fun j H' _ mk => ⟨mk.same.seq (IL.sq hrow), mk.same.seq (IL.sq (mt.same _ _ hb))⟩) (fun j x H3 H4 hj mk y => ?_) (fun H' mk => ?_)
        · obtain ⟨T, x1, x2, rfl, nT, rfl, g1, g2⟩ := y
          obtain ⟨z1, hz1, rfl⟩ := iv_inv g1
          obtain ⟨z2, hz2, rfl⟩ := iv_inv g2
          have r1 := wm.rng z1 (List.mem_of_getElem? hz1)
          have r2 := wb.rng z2 (List.mem_of_getElem? hz2)
          refine ⟨T, _, rfl, .inl (.inl upd_same), rfl, _, _, rfl, _, _, rfl, rfl, rfl, ?_⟩
          refine t_yes ?_
          have sT : Same H3 (upd H3 T (.tup [.int z1, .int z2])) := same_new nT
          refine ⟨_, rfl, _, rfl, _, rfl, r, _, _, _, rfl, rfl, IL.sq (sT _ _ (mk.same _ _ hrow)), atI_nat (iv_ent (by omega)), _, rfl, _, _, rfl, rfl, .inl ⟨by omega, by omega⟩, _, _, rfl, rfl, _, rfl, _, _, rfl, rfl, (by show 0 < p; omega), ?_⟩
          exact mk.step hD2 sT (lessR_get hz1 hz2) (by rw [lessR_len wm wb]; exact hn)
        · have fin := mk.done (by rw [lessR_len wm wb])
          obtain ⟨acc, e1, e2, e3⟩ := mt.step hD (tab_tracked hT) mk.same gi fin (.inr hD2) (by unfold clearM; rw [List.length_map]; exact hML)
          exact ⟨acc, e1, e2, _, e3⟩
    · exact q H' D qs mt.same hD (mt.tab (by unfold clearM; rw [List.length_map, List.length_map]; exact hT.len)) mt.src mt.nd mt.nD
end

/-! ### low -/
section
variable {P : Program} {w : World} {K : PySem.W.Frag} {mg : Str → Option Value} {base : Heap}
abbrev sLow : Stmt := topS 9

theorem scLow : FnScope ["p", "rows", "form", "row", "left", "place", "at"] ["p", "rows"] (defScope sLow) := ⟨rfl, rfl, rfl, by decide +kernel, rfl, by decide +kernel, by decide +kernel⟩

def spLow : Sp := fun vs H Q _ => ∃ (p : Int) (n : Nat) (a : Addr) (rs : List Addr) (M : List Row), vs = [.int p, .ref a] ∧ P5 p ∧ n ≤ 100 ∧ Tab H a rs M ∧ Wfs p n M ∧ M.length ≤ 100 ∧
  ∀ H' q qs, Same H H' → H q = none → Tab H' q qs (lowM p (invM p) M) → (∀ r ∈ qs, H r = none) → qs.Nodup → Q (.ref q) H'

theorem ok_low {f fI fM fC : Addr} {fd fdI fdM fdC : FuncData} {k : Nat} (F : Fun K "low" "low" sLow f fd)
    (GI : FnOk P w K mg base CX0 (k + 1) fI fdI ["p", "rest"] spInv) (bI : Binds K fdI ["p", "rest"] []) (kI : PySem.W.keepIn K (.ref fI) = true) (mI : mg "inverse" = some (.ref fI))
    (GM : FnOk P w K mg base CX0 (k + 1) fM fdM ["p", "rest", "rests"] spMul) (bM : Binds K fdM ["p", "rest", "rests"] []) (kM : PySem.W.keepIn K (.ref fM) = true) (mM : mg "multiplied_by" = some (.ref fM))
    (GC : FnOk P w K mg base CX0 (k + 1) fC fdC ["p", "rows", "place", "by"] spClr) (bC : Binds K fdC ["p", "rows", "place", "by"] []) (kC : PySem.W.keepIn K (.ref fC) = true) (mC : mg "cleared" = some (.ref fC))
    (ml : mg "len" = none) (mr : mg "range" = none) (mt : mg "list" = none) : FnOk P w K mg base CX0 (k + 2) f fd ["p", "rows"] spLow := by
  refine F.ok scLow (fun vs H Q E h => ?_) (fun cdv A outer s H vs Q E hr h => ?_)
  · obtain ⟨p, n, a, rs, M, rfl, _⟩ := h
    rfl
  · obtain ⟨p, n, a, rs, M, rfl, hp, hn, hT, hM, hML, q⟩ := h
    refine ⟨_, pss_cons (ps_set (i := 2) scLow.nd rfl (.inl rfl) (pe_lst pa_nil))
      (pss_cons (ps_setLc (i := 4) (own := [("row", 3)]) (g := gName 3) (tt := tYes) (by rfl) scLow.nd rfl rfl (sw_true rfl rfl rfl (by decide +kernel)) (pi_list (pv 1)) (blkOk_by (own := [("row", 3)]) (N := ["p", "rows", "form", "row", "left", "place", "at"]) (sc := defScope sLow) (by decide +kernel))
        (fun _ _ _ _ _ => pg_name (i := 3) scLow.nd rfl (Or.inl rfl)) (fun _ _ _ _ _ => pts_nil) (fun _ _ _ _ _ => pe_callTy (cLst K rfl) (by rfl) mt (by decide +kernel) (pa_cons (pv 3) pa_nil)))
      (pss_cons (ps_for PassesOwn.never rfl (pi_range1 rfl mr (pa_cons (pe_imp (fun σ H Q => ∃ a rs M, σ[1]? = some (some (V.ref a)) ∧ Tab H a rs M ∧ Q (.int (lenM M : Nat)) H) (pe_ifExp (pt_truth (pv 1) (by intro _; rfl)) (pe_callB call_len_seq (by rfl) ml PySem.boot_len (pa_cons (pe_ix ix_list (pv 1) pe_int (fun _ _ => rfl)) pa_nil)) pe_int)
          (fun σ H Q h => by
            obtain ⟨a, rs, M, e, t, q⟩ := h
            refine ⟨_, e, !(rf rs).isEmpty, .inl ⟨_, SqL.of t.at_, rfl⟩, ?_⟩
            cases rs with
            | nil =>
              cases M with
              | nil => exact q
              | cons m M => have := t.len; simp at this
            | cons x xs =>
              cases M with
              | nil => have := t.len; simp at this
              | cons m M =>
                have hm : IL H x m := t.row 0 x m rfl rfl
                refine ⟨_, e, a, _, _, _, rfl, rfl, SqL.of t.at_, atI_nat (j := 0) rfl, x, _, rfl, .inl (IL.sq hm), ?_⟩
                rw [List.length_map]
                exact q)) pa_nil)) (pg_name (i := 5) scLow.nd rfl (Or.inl rfl))
        (pss_cons (ps_set (i := 6) scLow.nd rfl (.inl rfl) pe_int)
        (pss_cons (ps_while PassesOwn.never (pt_imp (fun σ H Q => ∃ (la : Addr) (ls : List Addr) (L : List Row) (j i : Nat), σ[4]? = some (some (V.ref la)) ∧ σ[6]? = some (some (V.int (j : Int))) ∧ σ[5]? = some (some (V.int (i : Int))) ∧ Tab H la ls L ∧ (∀ m ∈ L, i < m.length) ∧ Q (decide (j < L.length ∧ ent (L.getD j []) i = 0)) H) (PW.pt (pw_and (pt_cmpR op_lt (pv 6) (pe_callB call_len_seq (by rfl) ml PySem.boot_len (pa_cons (pv 4) pa_nil)) (nomark _)) (pw_and1 (pt_cmpR op_eq (pe_ix ix_list (pe_ix ix_list (pv 4) (pv 6) (fun _ _ => rfl)) (pv 5) (fun _ _ => rfl)) pe_int (nomark _)))))
          (fun σ H Q h => by
            obtain ⟨la, ls, L, j, i, e4, e6, e5, t, hw, q⟩ := h
            refine ⟨_, e6, _, e4, la, _, rfl, .inl (SqL.of t.at_), _, _, rfl, rfl, _, rfl, ?_⟩
            have lenl : (rf ls).length = L.length := by rw [List.length_map, t.len]
            rw [lenl]
            by_cases hj : j < L.length
            · rw [decide_eq_true (show (j : Int) < (L.length : Int) by omega)]
              refine iteT ?_
              obtain ⟨m, hm⟩ := get_of hj
              obtain ⟨r, hr⟩ := get_of (l := ls) (i := j) (by have := t.len; omega)
              have gm : L.getD j [] = m := getD_of hm
              rw [gm] at q
              have hrow := t.row j r m hr hm
              refine ⟨_, e4, _, e6, la, _, _, _, rfl, rfl, SqL.of t.at_, atI_nat (rf_get hr), _, e5, r, _, _, _, rfl, rfl, IL.sq hrow, atI_nat (iv_ent (hw m (List.mem_of_getElem? hm))), rfl, _, rfl, ?_⟩
              rw [show decide (V.int (ent m i) = V.int 0) = decide (j < L.length ∧ ent m i = 0) from decide_eq_decide.mpr ⟨fun e => ⟨hj, V.int.inj e⟩, fun e => congrArg V.int e.2⟩]
              exact q
            · rw [decide_eq_false (show ¬ (j : Int) < (L.length : Int) by omega)]
              refine iteF ?_
              rw [decide_eq_false (fun e => hj e.1)] at q
              exact q))
          (pss_one (ps_aug (i := 6) scLow.nd rfl (.inl rfl) pe_int ip_add)))
        (pss_one (ps_if (pt_cmpR op_lt (pv 6) (pe_callB call_len_seq (by rfl) ml PySem.boot_len (pa_cons (pv 4) pa_nil)) (nomark _))
          (pss_cons (ps_set (i := 3) scLow.nd rfl (.inl rfl) (pe_bm PySem.F.plainAttrs_list PySem.F.slot_list_pop PySem.F.type_list_pop mt_popAt (pv 4) (pa_cons (pv 6) pa_nil)))
          (pss_cons (ps_set (i := 3) scLow.nd rfl (.inl rfl) (pe_call GM hr (by rfl) mM kM bM .nil pass0 (pa_cons (pv 0) (pa_cons (pe_call GI hr (by rfl) mI kI bI .nil pass0 (pa_cons (pv 0) (pa_cons (pe_ix ix_list (pv 3) (pv 5) (fun _ _ => rfl)) pa_nil))) (pa_cons (pv 3) pa_nil)))))
          (pss_cons (ps_set (i := 4) scLow.nd rfl (.inl rfl) (pe_call GC hr (by rfl) mC kC bC .nil pass0 (pa_cons (pv 0) (pa_cons (pv 4) (pa_cons (pv 5) (pa_cons (pv 3) pa_nil))))))
          (pss_cons (ps_set (i := 2) scLow.nd rfl (.inl rfl) (pe_call GC hr (by rfl) mC kC bC .nil pass0 (pa_cons (pv 0) (pa_cons (pv 2) (pa_cons (pv 5) (pa_cons (pv 3) pa_nil))))))
          (pss_one (ps_expr (pe_bm PySem.F.plainAttrs_list PySem.F.slot_list_append PySem.F.type_list_append mt_append (pv 2) (pa_cons (pv 3) pa_nil))))))))
          pss_nil)))))
      (pss_one (ps_ret (pv 2))))), ?_⟩
    have two := hp.two
    have le := hp.le
    have hv := inv_is hp
    -- form = []
    refine ⟨Nat.zero_le _, fun fa nfa => ?_⟩
    have s1 : Same H (L2.upd H fa (.lst [])) := same_new nfa
    -- left
    refine ⟨_, rfl, a, rfl, ⟨_, s1.seq (SqL.of hT.at_)⟩, fun la nla => ?_⟩
    have hT1 := hT.same s1
    refine lc_it (walk_list (K := K) (a := a) (xs := rf rs)) (fun i H' => ∃ qs, Mt (L2.upd H fa (.lst [])) la [] M i H' qs) ⟨[], Mt.start nla⟩ (fun i H' _ ⟨qs, m⟩ => (m.same.seq (SqL.of hT1.at_))) (fun i x H1 H2 hi ⟨qs, m⟩ y => ?_) (fun H2 ⟨ls, m⟩ => ?_)
    · obtain ⟨rfl, hx⟩ := y
      obtain ⟨r, hrr, rfl⟩ := rf_inv hx
      obtain ⟨mm, hm⟩ := get_of (l := M) (i := i) (by have := get_lt hrr; have := hT.len; omega)
      have hrow : IL H2 r mm := m.same _ _ (hT1.row i r mm hrr hm)
      refine ⟨rfl, ?_⟩
      refine t_yes ?_
      refine ⟨_, rfl, r, _, rfl, .inl (IL.sq hrow), fun l nl => ?_⟩
      obtain ⟨acc, e1, e2, e3⟩ := m.step nla (fun r hr => by simp at hr) (same_new nl) hm upd_same (.inr nl) (by omega)
      exact ⟨acc, e1, e2, _, e3⟩
    -- the loop over the places
    have hlen : (rf rs).length = M.length := by rw [List.length_map, hT.len]
    have tl := m.tab hlen
    have start : LowI H H2 fa la [] ls [] M := ⟨s1.trans m.same, ⟨m.same _ _ upd_same, rfl, fun i r mm hr => by simp at hr⟩, tl, nfa, same_none s1 nla, (fun e => by rw [← e, upd_same] at nla; cases nla), fun r hr => by simp at hr, List.nodup_nil⟩
    have hT2 := hT1.same m.same
    have hmax : lenM M ≤ 100 := by
      cases M with
      | nil => exact Nat.zero_le _
      | cons r M =>
        show r.length ≤ 100
        rw [(hM r List.mem_cons_self).len]
        exact hn
    have hnM : lenM M ≤ n := by
      cases M with
      | nil => exact Nat.zero_le _
      | cons r M => exact Nat.le_of_eq (hM r List.mem_cons_self).len
    refine ⟨a, rs, M, rfl, hT2, _, rfl, by omega, by omega, ?_⟩
    refine for_range (lo := 0) (n := lenM M) (fun i σ H' => ∃ fa la fs ls y3 y5 y6, σ = [some (.int p), some (.ref a), some (.ref fa), y3, some (.ref la), y5, y6] ∧ LowI H H' fa la fs ls (runM p (invM p) M i).1 (runM p (invM p) M i).2) ⟨fa, la, [], ls, none, none, none, rfl, start⟩ (fun i σ H' hi hW => ?_) (fun σ H' hW => ?_)
    · obtain ⟨fa, la, fs, ls, y3, y5, y6, rfl, inv⟩ := hW
      obtain ⟨lsR, R⟩ := run_all two hv hM i (by omega)
      have lens := runM_len (p := p) (inv := invM p) (rows := M) i
      have est : runM p (invM p) M (i + 1) = stepM p (invM p) i (runM p (invM p) M i) := rfl
      generalize runM p (invM p) M i = S at *
      obtain ⟨Fm, L⟩ := S
      dsimp only at *
      have iz : V.int (0 + (i : Int)) = V.int (i : Int) := by rw [Int.zero_add]
      rw [iz]
      -- at = 0; while
      refine step_name ?_
      refine step_seq ?_
      refine step_asgC ?_
      dsimp only
      refine step_seq ?_
      show tWhile _ _ _ [some (.int p), some (.ref a), some (.ref fa), y3, some (.ref la), some (.int (i : Int)), some (.int ((0 : Nat) : Int))] H'
      refine wh (fun m σ H2 => H2 = H' ∧ ∃ j : Nat, σ = [some (.int p), some (.ref a), some (.ref fa), y3, some (.ref la), some (.int (i : Int)), some (.int (j : Int))] ∧ m = L.length - j ∧ j ≤ L.length ∧ ∀ k, k < j → ent (L.getD k []) i = 0) _ ⟨rfl, 0, rfl, rfl, Nat.zero_le _, fun k hk => absurd hk (Nat.not_lt_zero _)⟩ fun mm σ H2 hW => ?_
      obtain ⟨rfl, j, rfl, rfl, hj, hz⟩ := hW
      have tl := inv.tl
      have lenl := tl.len
      have wfL := R.wf
      dsimp only at wfL
      refine ⟨la, ls, L, j, i, rfl, rfl, rfl, tl, fun m hm => (by rw [(wfL m hm).len]; omega), ite2 (fun c => ?_) (fun c => ?_)⟩
      · have c' := of_decide_eq_true c
        refine ⟨_, fun σ' H' h => h, _, rfl, _, _, rfl, rfl, L.length - (j + 1), by omega, rfl, j + 1, rfl, rfl, by omega, fun k hk => ?_⟩
        by_cases ek : k = j
        · rw [ek]
          exact c'.2
        · exact hz k (by omega)
      · have c' : ¬ (j < L.length ∧ ent (L.getD j []) i = 0) := of_decide_eq_false (Bool.eq_false_iff.mpr c)
        refine ⟨_, rfl, _, rfl, la, _, rfl, .inl (SqL.of tl.at_), _, _, rfl, rfl, _, rfl, ?_⟩
        rw [show (rf ls).length = L.length by rw [List.length_map, lenl]]
        refine ite2 (fun c2 => ?_) (fun c2 => ?_)
        · have hjl : j < L.length := by have := of_decide_eq_true c2; omega
          have hne : ent (L.getD j []) i ≠ 0 := fun e => c' ⟨hjl, e⟩
          have hpick := pick_is hjl hz hne
          obtain ⟨m0, hm0⟩ := get_of hjl
          obtain ⟨r0, hr0⟩ := get_of (l := ls) (i := j) (by omega)
          have gm : L.getD j [] = m0 := getD_of hm0
          rw [gm] at hne
          have hrow := tl.row j r0 m0 hr0 hm0
          have wm0 := wfL m0 (List.mem_of_getElem? hm0)
          have est2 : runM p (invM p) M (i + 1) = (clearM p i (mulR p (invM p (ent m0 i)) m0) Fm ++ [mulR p (invM p (ent m0 i)) m0], clearM p i (mulR p (invM p (ent m0 i)) m0) (L.eraseIdx j)) := by
            rw [est]
            unfold stepM
            dsimp only
            rw [hpick]
            dsimp only
            rw [gm]
          rw [est2]
          dsimp only
          -- row = left.pop(at)
          refine ⟨_, rfl, .inl ⟨rfl, _, SqL.of tl.at_⟩, _, rfl, la, _, (j : Int), j, _, rfl, rfl, tl.at_, by omega, by omega, seqIx (by rw [List.length_map]; omega), rf_get hr0, ?_⟩
          have er := tl.erase (j := j) (by omega)
          have hr0m : r0 ∈ ls := List.mem_of_getElem? hr0
          have cls : ∃ x xs, ls = x :: xs := by
            cases ls with
            | nil => simp at hr0m
            | cons x xs => exact ⟨x, xs, rfl⟩
          have neR : ∀ (r : Addr) (m : List Int), IL H2 r m → r ≠ la := fun r m h => by
            obtain ⟨x, xs, rfl⟩ := cls
            exact rf_ne tl.at_ h
          have sH1 : Same H (L2.upd H2 la (.lst ((rf ls).eraseIdx j))) := same_upd inv.nl inv.same
          have tf1 : Tab (L2.upd H2 la (.lst ((rf ls).eraseIdx j))) fa fs Fm := inv.tf.upd inv.ne fun r hr => by
            obtain ⟨m, _, hm⟩ := IL.ref inv.tf hr
            exact neR r m hm
          have row1 : IL (L2.upd H2 la (.lst ((rf ls).eraseIdx j))) r0 m0 := by
            show (L2.upd H2 la _) r0 = _
            rw [upd_ne (neR r0 m0 hrow)]
            exact hrow
          generalize L2.upd H2 la (.lst ((rf ls).eraseIdx j)) = H3 at *
          have em := wm0.ent (show i < n by omega)
          obtain ⟨v1, v2, _⟩ := inv_ok hp (show 0 < ent m0 i by omega) em.2
          -- row = multiplied_by(p, inverse(p, row[place]), row)
          refine ⟨_, rfl, _, rfl, _, rfl, _, rfl, r0, _, _, _, rfl, rfl, IL.sq row1, atI_nat (iv_ent (by rw [wm0.len]; omega)), ⟨p, ent m0 i, rfl, hp, by omega, em.2, ?_⟩⟩
          refine ⟨_, rfl, ⟨p, invM p (ent m0 i), r0, m0, rfl, by omega, by omega, by omega, row1, by rw [wm0.len]; omega, fun H4 q1 s4 n4 i4 => ?_⟩⟩
          have wrow : Wf p n (mulR p (invM p (ent m0 i)) m0) := mulR_wf (by omega) wm0
          generalize hrowe : mulR p (invM p (ent m0 i)) m0 = row at *
          have lenE : (L.eraseIdx j).length ≤ L.length := List.length_eraseIdx_le _ _
          -- left = cleared(..)
          refine ⟨_, rfl, _, rfl, _, rfl, _, rfl, ⟨p, n, i, la, q1, ls.eraseIdx j, L.eraseIdx j, row, rfl, two, le, by omega, by omega, er.same s4, fun m hm => wfL m (List.mem_of_mem_eraseIdx hm), by omega, i4, wrow, fun H5 la2 ls2 s5 n5 t5 _ _ _ => ?_⟩⟩
          -- form = cleared(..)
          refine ⟨_, rfl, _, rfl, _, rfl, _, rfl, ⟨p, n, i, fa, q1, fs, Fm, row, rfl, two, le, by omega, by omega, tf1.same (s4.trans s5), R.low.wf, by omega, s5 _ _ i4, wrow, fun H6 fa2 fs2 s6 n6 t6 src6 nd6 nD6 => ?_⟩⟩
          -- form.append(row)
          have i5 := s5 _ _ i4
          have i6 := s6 _ _ i5
          have lf : fs2.length = Fm.length := by rw [t6.len, clearM_len]
          have nq : q1 ≠ fa2 := ne_of_none i5 n6
          refine ⟨_, rfl, .inl ⟨rfl, _, SqL.of t6.at_⟩, _, rfl, fa2, _, _, rfl, rfl, t6.at_, by rw [List.length_map]; exact small1000 (by omega), ?_⟩
          refine ⟨fa2, la2, fs2 ++ [q1], ls2, _, _, _, rfl, ?_⟩
          have s35 : Same H H5 := sH1.trans (s4.trans s5)
          refine ⟨same_upd (same_none s35 n6) (s35.trans s6), ⟨?_, ?_, fun t r m hr hm => ?_⟩, ?_, same_none s35 n6, same_none (sH1.trans s4) n5, fun e => ?_, fun r hr => ?_, nodup_snoc (nd6 inv.nd) fun hm => ?_⟩
          · rw [upd_same]
            simp
          · rw [List.length_append, List.length_append, lf, clearM_len]
            rfl
          · by_cases ht : t < fs2.length
            · rw [List.getElem?_append_left ht] at hr
              rw [List.getElem?_append_left (by rw [clearM_len]; omega)] at hm
              show (L2.upd H6 fa2 _) r = _
              rw [upd_ne (fun z : r = fa2 => nD6 (z ▸ List.mem_of_getElem? hr))]
              exact t6.row t r m hr hm
            · have ht2 := get_lt hr
              rw [List.length_append, List.length_singleton] at ht2
              have et : t = fs2.length := by omega
              rw [List.getElem?_append_right (by omega), et, Nat.sub_self] at hr
              rw [List.getElem?_append_right (by rw [clearM_len]; omega), et, lf, clearM_len, Nat.sub_self] at hm
              cases Option.some.inj hr
              cases Option.some.inj hm
              show (L2.upd H6 fa2 _) q1 = _
              rw [upd_ne nq]
              exact i6
          · refine (t5.same s6).upd (ne_of_none t5.at_ n6) fun r hr => ?_
            obtain ⟨m, _, hm⟩ := IL.ref t5 hr
            exact ne_of_none hm n6
          · rw [← e] at n5
            have z := same_none s5 n6
            rw [e] at n6
            rw [t5.at_] at n6
            cases n6
          · rcases List.mem_append.mp hr with h | h
            · obtain ⟨t, ht⟩ := List.getElem?_of_mem h
              rcases src6 t r ht with h2 | h2
              · exact inv.fresh r (List.mem_of_getElem? h2)
              · exact same_none s35 h2
            · rw [List.mem_singleton.mp h]
              exact same_none sH1 n4
          · obtain ⟨t, ht⟩ := List.getElem?_of_mem hm
            rcases src6 t q1 ht with h2 | h2
            · obtain ⟨m, _, hm⟩ := IL.ref tf1 (List.mem_of_getElem? h2)
              rw [IL, n4] at hm
              cases hm
            · rw [i5] at h2
              cases h2
        · have hpick : pick i L = none := pick_non fun k hk => hz k (by
            have : ¬ (j : Int) < (L.length : Int) := fun z => c2 (decide_eq_true z)
            omega)
          have est2 : runM p (invM p) M (i + 1) = (Fm, L) := by
            rw [est]
            unfold stepM
            dsimp only
            rw [hpick]
          rw [est2]
          exact ⟨fa, la, fs, ls, _, _, _, rfl, inv⟩
    · obtain ⟨fa, la, fs, ls, y3, y5, y6, rfl, inv⟩ := hW
      exact ⟨_, rfl, q H' fa fs inv.same inv.nf inv.tf inv.fresh inv.nd⟩
end

/-! ### lead -/
section
variable {P : Program} {w : World} {K : PySem.W.Frag} {mg : Str → Option Value} {base : Heap}
abbrev sLead : Stmt := topS 7
theorem scLead : FnScope ["row", "place", "number"] ["row"] (defScope sLead) := ⟨rfl, rfl, rfl, by decide +kernel, rfl, by decide +kernel, by decide +kernel⟩
def spLead : Sp := fun vs H Q _ => ∃ (a : Addr) (m : Row) (l : Nat), vs = [.ref a] ∧ IL H a m ∧ l < m.length ∧ (∀ j, j < l → ent m j = 0) ∧ ent m l ≠ 0 ∧ ∀ H', Same H H' → Q (.int (l : Int)) H'
theorem ok_lead {f : Addr} {fd : FuncData} {k : Nat} (F : Fun K "lead" "lead" sLead f fd) (me : mg "enumerate" = none) : FnOk P w K mg base CX0 (k + 1) f fd ["row"] spLead := by
  refine F.ok scLead (fun vs H Q E h => ?_) (fun cdv A outer s H vs Q E hr h => ?_)
  · obtain ⟨a, m, l, rfl, _⟩ := h
    rfl
  · obtain ⟨a, m, l, rfl, hm, hl, hz, hn, q⟩ := h
    refine ⟨_, pss_cons (ps_for PassesOwn.never rfl (pi_enum (by rfl) me (pa_cons (pv 0) pa_nil)) (pg_tup rfl (pgs_cons (pg_name (i := 1) scLead.nd rfl (Or.inl rfl)) (pgs_cons (pg_name (i := 2) scLead.nd rfl (Or.inl rfl)) pgs_nil)))
        (pss_one (ps_if (pt_cmpR op_ne (pv 2) pe_int (nomark _)) (pss_one (ps_ret (pv 1))) pss_nil)))
      (pss_one (ps_ret pe_non)), ?_⟩
    refine ⟨_, rfl, a, _, rfl, IL.sq hm, ?_⟩
    refine for_it (walk_enum (K := K) (a := a) (xs := iv m)) (fun i σ H' => i ≤ l ∧ Same H H' ∧ ∃ y1 y2, σ = [some (.ref a), y1, y2]) ⟨Nat.zero_le _, Same.refl H, none, none, rfl⟩ (fun i σ H' _ h => h.2.1.seq (IL.sq hm)) (fun i x σ H1 H2 hi hW y => ?_) (fun σ H' hW => ?_)
    · obtain ⟨il, sm, y1, y2, rfl⟩ := hW
      obtain ⟨T, x1, x2, rfl, nT, rfl, g1, g2⟩ := y
      cases Option.some.inj g1
      obtain ⟨z, hzz, rfl⟩ := iv_inv g2
      have sT : Same H1 (L2.upd H1 T (.tup [.int (i : Int), .int z])) := same_new nT
      have hil : i < m.length := by rw [List.length_map] at hi; exact hi
      have ez : z = ent m i := by
        rw [ent_some hil] at hzz
        exact (Option.some.inj hzz).symm
      refine ⟨T, _, rfl, .inl (.inl upd_same), rfl, _, _, rfl, _, _, rfl, rfl, ?_⟩
      refine ⟨_, rfl, rfl, _, rfl, ?_⟩
      rw [← decide_not]
      refine ite2 (fun c => ?_) (fun c => ?_)
      · have c1 : z ≠ 0 := fun e => of_decide_eq_true c (congrArg V.int e)
        have e : i = l := by
          by_cases h : i < l
          · exact absurd (ez.trans (hz i h)) c1
          · omega
        rw [← e] at q
        exact ⟨_, rfl, q _ (sm.trans sT)⟩
      · have c1 : z = 0 := Classical.byContradiction fun e => c (decide_eq_true fun w => e (V.int.inj w))
        have ne : i ≠ l := fun e => hn (by rw [← e, ← ez, c1])
        exact ⟨by omega, sm.trans sT, _, _, rfl⟩
    · rw [List.length_map] at hW
      have := hW.1
      omega
end

/-! ### across -/
section
variable {P : Program} {w : World} {K : PySem.W.Frag} {mg : Str → Option Value} {base : Heap}
abbrev sAcr : Stmt := topS 10
abbrev nAcr : List Str := ["p", "length", "form", "row", "leads", "found", "place", "at", "leading"]
theorem scAcr : FnScope nAcr ["p", "length", "form"] (defScope sAcr) := ⟨rfl, rfl, rfl, by decide +kernel, rfl, by decide +kernel, by decide +kernel⟩
def spAcr : Sp := fun vs H Q _ => ∃ (p : Int) (n : Nat) (a : Addr) (rs : List Addr) (F : List Row) (ls : List Nat), vs = [.int p, .int (n : Int), .ref a] ∧ P5 p ∧ n ≤ 100 ∧ Tab H a rs F ∧ Low p n F ls ∧
  ∀ H' q qs, Same H H' → H q = none → Tab H' q qs (acM p (invM p) n F ls) → (∀ r ∈ qs, H r = none) → qs.Nodup → Q (.ref q) H'
theorem ok_acr {f fD fL : Addr} {fd fdD fdL : FuncData} {k : Nat} (F : Fun K "across" "across" sAcr f fd)
    (GD : FnOk P w K mg base CX0 (k + 2) fD fdD ["row"] spLead) (bD : Binds K fdD ["row"] []) (kD : PySem.W.keepIn K (.ref fD) = true) (mD : mg "lead" = some (.ref fD))
    (GL : FnOk P w K mg base CX0 (k + 2) fL fdL ["p", "rows"] spLow) (bL : Binds K fdL ["p", "rows"] []) (kL : PySem.W.keepIn K (.ref fL) = true) (mL : mg "low" = some (.ref fL))
    (mr : mg "range" = none) (mz : mg "zip" = none) : FnOk P w K mg base CX0 (k + 3) f fd ["p", "length", "form"] spAcr := by
  refine F.ok scAcr (fun vs H Q E h => ?_) (fun cdv A outer s H vs Q E hr h => ?_)
  · obtain ⟨p, n, a, rs, F, ls, rfl, _⟩ := h
    rfl
  · obtain ⟨p, n, a, rs, F, ls, rfl, hp, hn, tab, L, q⟩ := h
    refine ⟨_, pss_cons (ps_setLc (i := 4) (own := [("row", 3)]) (g := gName 3) (tt := tYes) (by rfl) scAcr.nd rfl rfl (sw_true rfl rfl rfl (by decide +kernel)) (pi_list (pv 2)) (blkOk_by (own := [("row", 3)]) (N := nAcr) (sc := defScope sAcr) (by decide +kernel))
        (fun _ _ _ _ _ => pg_name (i := 3) scAcr.nd rfl (Or.inl rfl)) (fun _ _ _ _ _ => pts_nil) (fun _ _ _ _ _ => pe_call GD hr (by rfl) mD kD bD .nil pass0 (pa_cons (pv 3) pa_nil)))
      (pss_cons (ps_set (i := 5) scAcr.nd rfl (.inl rfl) (pe_lst pa_nil))
      (pss_cons (ps_for PassesOwn.never rfl (pi_range1 rfl mr (pa_cons (pv 1) pa_nil)) (pg_name (i := 6) scAcr.nd rfl (Or.inl rfl))
        (pss_one (ps_if (pt_cmpR op_notIn_seq (pv 6) (pv 4) (by rfl))
          (pss_cons (ps_set (i := 3) scAcr.nd rfl (.inl rfl) (pe_op op_rep (pe_lst (pa_cons pe_int pa_nil)) (pv 1)))
          (pss_cons (ps_asg pe_int (pg_sub (pv 3) (pv 6) set_list (fun _ => rfl)))
          (pss_cons (ps_for PassesOwn.never rfl (pi_zip (by rfl) mz (pa_cons (pv 4) (pa_cons (pv 2) pa_nil))) (pg_tup rfl (pgs_cons (pg_name (i := 7) scAcr.nd rfl (Or.inl rfl)) (pgs_cons (pg_name (i := 8) scAcr.nd rfl (Or.inl rfl)) pgs_nil)))
            (pss_one (ps_asg (pe_op op_mod (pe_un un_neg (pe_ix ix_list (pv 8) (pv 6) (fun _ _ => rfl))) (pv 0)) (pg_sub (pv 3) (pv 7) set_list (fun _ => rfl)))))
          (pss_one (ps_expr (pe_bm PySem.F.plainAttrs_list PySem.F.slot_list_append PySem.F.type_list_append mt_append (pv 5) (pa_cons (pv 3) pa_nil)))))))
          pss_nil)))
      (pss_one (ps_ret (pe_call GL hr (by rfl) mL kL bL .nil pass0 (pa_cons (pv 0) (pa_cons (pv 5) pa_nil))))))), ?_⟩
    have two := hp.two
    have few := low_few L
    have ll := L.dl.1
    -- leads
    refine ⟨_, rfl, a, rfl, ⟨_, SqL.of tab.at_⟩, fun ld nld => ?_⟩
    refine lc_it (walk_list (K := K) (a := a) (xs := rf rs)) (fun i H' => Mk H ld (lsI ls) i H') (Mk.start nld) (fun i H' _ mk => mk.same.seq (SqL.of tab.at_)) (fun i x H1 H2 hi mk y => ?_) (fun H1 mk => ?_)
    · obtain ⟨rfl, hx⟩ := y
      obtain ⟨r, hrr, rfl⟩ := rf_inv hx
      obtain ⟨mm, hmm⟩ := get_of (l := F) (i := i) (by have := get_lt hrr; have := tab.len; omega)
      have hrow := mk.same _ _ (tab.row i r mm hrr hmm)
      obtain ⟨l, hl, ln, lz, l1⟩ := low_ne L hmm
      have wmm := L.wf mm (List.mem_of_getElem? hmm)
      refine ⟨rfl, ?_⟩
      refine t_yes ?_
      refine ⟨_, rfl, ⟨r, mm, l, rfl, hrow, by rw [wmm.len]; exact ln, lz, by rw [l1]; decide, fun H3 s3 => ?_⟩⟩
      exact mk.step nld s3 (lsI_get hl) (by rw [lsI_len]; omega)
    have il := mk.done (by rw [List.length_map, tab.len, lsI_len, ll])
    have s1 := mk.same
    -- found
    refine ⟨Nat.zero_le _, fun fd0 nfd => ?_⟩
    have nfd0 : H fd0 = none := same_none s1 nfd
    have ne0 : ld ≠ fd0 := ne_of_none il nfd
    refine ⟨_, rfl, (n : Int), rfl, by omega, by omega, ?_⟩
    refine for_range (lo := 0) (n := _) (fun i σ H' => ∃ fs y3 y6 y7 y8, σ = [some (.int p), some (.int (n : Int)), some (.ref a), y3, some (.ref ld), some (.ref fd0), y6, y7, y8] ∧ Same H H' ∧ IL H' ld (lsI ls) ∧ Tab H' fd0 fs ((outs i ls).map (nullV p n F ls)))
      ⟨[], none, none, none, none, rfl, s1.trans (same_new nfd), (same_new nfd) _ _ il, ⟨upd_same, rfl, fun i r m hr => by simp at hr⟩⟩ (fun i σ H' hi hW => ?_) (fun σ H' hW => ?_)
    · rw [Int.toNat_natCast] at hi
      obtain ⟨fs, y3, y6, y7, y8, rfl, sm, ild, T⟩ := hW
      have iz : (0 : Int) + (i : Int) = (i : Int) := Int.zero_add _
      rw [iz]
      refine ⟨_, rfl, _, rfl, ld, _, rfl, .inl (IL.sq ild), rfl, all_flat _, !inV (.int (i : Int)) (iv (lsI ls)), rfl, ?_⟩
      rw [inV_int]
      by_cases hin : i ∈ ls
      · rw [decide_eq_true (lsI_mem.mpr hin)]
        refine iteF ?_
        refine ⟨fs, _, _, _, _, rfl, sm, ild, ?_⟩
        rw [outs_succ, if_pos hin, List.append_nil]
        exact T
      · rw [decide_eq_false (fun h => hin (lsI_mem.mp h))]
        refine iteT ?_
        -- row
        refine ⟨(by show 1 ≤ sizeLine; decide), fun l1 nl1 => ?_⟩
        refine ⟨_, rfl, l1, (n : Int), _, rfl, rfl, upd_same, by omega, by omega, ?_, fun z nz => ?_⟩
        · rw [Int.toNat_natCast, List.length_singleton, Nat.one_mul]
          exact Nat.le_of_lt (small1000 (by omega))
        have s2 : Same H' (L2.upd (L2.upd H' l1 (.lst [.int 0])) z (.lst (List.replicate (n : Int).toNat [V.int 0]).flatten)) := (same_new nl1).trans (same_new nz)
        have zz : IL (L2.upd (L2.upd H' l1 (.lst [.int 0])) z (.lst (List.replicate (n : Int).toNat [V.int 0]).flatten)) z (zeros n) := by
          show (L2.upd _ z _) z = _
          rw [upd_same, rep_zeros]
        have nz0 : H' z = none := same_none (same_new nl1) nz
        generalize L2.upd (L2.upd H' l1 (.lst [.int 0])) z (.lst (List.replicate (n : Int).toNat [V.int 0]).flatten) = H2 at *
        have lz : (iv (zeros n)).length = n := by rw [List.length_map, zeros_len]
        refine ⟨_, rfl, _, rfl, z, _, (i : Int), i, rfl, rfl, zz, ix_set (by rw [lz]; exact hi), ?_⟩
        have i2 : IL (L2.upd H2 z (.lst ((iv (zeros n)).set i (.int 1)))) z ((zeros n).set i 1) := IL.set
        have o2 : Off z H' (L2.upd H2 z (.lst ((iv (zeros n)).set i (.int 1)))) := fun u o nu e => by
          rw [upd_ne nu]
          exact s2 _ _ e
        generalize L2.upd H2 z (.lst ((iv (zeros n)).set i (.int 1))) = H3 at *
        have nld : ld ≠ z := ne_of_none ild nz0
        have ilo : ∀ {H4}, Off z H3 H4 → IL H4 ld (lsI ls) := fun {H4} o => o _ _ nld (o2 _ _ nld ild)
        have tabo : ∀ {H4}, Off z H3 H4 → Tab H4 a rs F := fun {H4} o => ((tab.same sm).off o2 (ne_of_none (sm _ _ tab.at_) nz0) fun r hr => by
          obtain ⟨m, _, hm⟩ := IL.ref tab hr
          exact ne_of_none (sm _ _ hm) nz0).off o (ne_of_none (sm _ _ tab.at_) nz0) fun r hr => by
          obtain ⟨m, _, hm⟩ := IL.ref tab hr
          exact ne_of_none (sm _ _ hm) nz0
        refine ⟨_, rfl, _, rfl, ld, a, _, _, rfl, IL.sq (ilo (Off.refl z H3)), SqL.of (tabo (Off.refl z H3)).at_, ?_⟩
        refine for_it (walk_zip (K := K) (a := ld) (b := a) (xs := iv (lsI ls)) (ys := rf rs) (n := F.length) (by rw [List.length_map, List.length_map, lsI_len, ll, tab.len, Nat.min_self])) (fun k σ H4 => ∃ ri y7 y8, σ = [some (.int p), some (.int (n : Int)), some (.ref a), some (.ref z), some (.ref ld), some (.ref fd0), some (.int (i : Int)), y7, y8] ∧ Off z H3 H4 ∧ IL H4 z ri ∧ ri.length = n ∧ setAll p i ri (ls.drop k) (F.drop k) = nullV p n F ls i)
          ⟨_, _, _, rfl, Off.refl z H3, i2, by rw [List.length_set, zeros_len], rfl⟩ (fun k σ H4 _ h => ?_) (fun k x σ H4 H5 hk hW y => ?_) (fun σ H4 hW => ?_)
        · obtain ⟨_, _, _, _, o, _⟩ := h
          exact ⟨IL.sq (ilo o), SqL.of (tabo o).at_⟩
        · obtain ⟨ri, y7, y8, rfl, o, iz4, lri, e⟩ := hW
          obtain ⟨T2, x1, x2, rfl, nT, rfl, g1, g2⟩ := y
          obtain ⟨r, hrr, rfl⟩ := rf_inv g2
          obtain ⟨m, hm⟩ := get_of (l := F) (i := k) hk
          obtain ⟨l, hl⟩ := get_of (l := ls) (i := k) (by omega)
          obtain ⟨zi, hzi, rfl⟩ := iv_inv g1
          rw [lsI_get hl] at hzi
          cases Option.some.inj hzi
          have ln := L.lt l (List.mem_of_getElem? hl)
          have sT : Same H4 (L2.upd H4 T2 (.tup [.int (l : Int), .ref r])) := same_new nT
          have hrow := sT _ _ ((tabo o).row k r m hrr hm)
          have wm := L.wf m (List.mem_of_getElem? hm)
          have iz5 := sT _ _ iz4
          have o5 : Off z H3 (L2.upd H4 T2 (.tup [.int (l : Int), .ref r])) := o.trans (Off.of sT)
          refine ⟨T2, _, rfl, .inl (.inl upd_same), rfl, _, _, rfl, _, _, rfl, rfl, ?_⟩
          generalize L2.upd H4 T2 (.tup [.int (l : Int), .ref r]) = H6 at *
          have hrow : IL H6 r m := hrow
          have iz5 : IL H6 z ri := iz5
          refine ⟨_, rfl, _, rfl, r, _, _, _, rfl, rfl, IL.sq hrow, atI_nat (iv_ent (by rw [wm.len]; exact hi)), _, rfl, _, rfl, _, _, rfl, rfl, (by show 0 < p; omega), _, rfl, _, rfl, z, _, (l : Int), l, rfl, rfl, iz5, ix_set (by rw [List.length_map, lri]; exact ln), ?_⟩
          refine ⟨ri.set l (-(ent m i) % p), _, _, rfl, fun u o' nu e => ?_, IL.set, by rw [List.length_set, lri], ?_⟩
          · rw [upd_ne nu]
            exact o5 _ _ nu e
          · rw [drop_get hl, drop_get hm] at e
            exact e
        · obtain ⟨ri, z7, z8, rfl, o, iz4, lri, e⟩ := hW
          rw [List.drop_eq_nil_of_le (Nat.le_refl _), setAll_nil] at e
          rw [e] at iz4
          have nfz : fd0 ≠ z := ne_of_none T.at_ nz0
          have nfr : ∀ r ∈ fs, r ≠ z := fun r hr => by
            obtain ⟨m, _, hm⟩ := IL.ref T hr
            exact ne_of_none hm nz0
          have T4 : Tab H4 fd0 fs ((outs i ls).map (nullV p n F ls)) := (T.off o2 nfz nfr).off o nfz nfr
          have lo : (rf fs).length ≤ i := by
            rw [List.length_map, T.len, List.length_map]
            have := List.length_filter_le (fun j => !ls.contains j) (List.range i)
            rw [List.length_range] at this
            exact this
          refine ⟨_, rfl, .inl ⟨rfl, _, SqL.of T4.at_⟩, _, rfl, fd0, _, _, rfl, rfl, T4.at_, small1000 (by omega), ?_⟩
          refine ⟨fs ++ [z], _, _, _, _, rfl, ?_, ?_, ?_⟩
          · refine same_upd nfd0 fun u o' e => o _ _ ?_ (o2 _ _ ?_ (sm _ _ e))
            · exact ne_of_none (sm _ _ e) nz0
            · exact ne_of_none (sm _ _ e) nz0
          · show (L2.upd H4 fd0 _) ld = _
            rw [upd_ne ne0]
            exact ilo o
          · rw [outs_succ, if_neg hin, List.map_append]
            exact T4.push iz4 nfz.symm
    · rw [Int.toNat_natCast] at hW
      obtain ⟨fs, y3, y6, y7, y8, rfl, sm, ild, T⟩ := hW
      have fl := found_len L
      refine ⟨_, rfl, _, rfl, ⟨p, n, fd0, fs, _, rfl, hp, hn, T, found_wf two, (by show (found p n F ls).length ≤ 100; omega), fun H5 q5 qs5 s5 n5 t5 f5 nd5 => ?_⟩⟩
      exact q H5 q5 qs5 (sm.trans s5) (same_none sm n5) t5 (fun r hr => same_none sm (f5 r hr)) nd5
end

/-! ### image -/
section
variable {P : Program} {w : World} {K : PySem.W.Frag} {mg : Str → Option Value} {base : Heap}
abbrev sImg : Stmt := topS 16
abbrev nImg : List Str := ["p", "table"]
theorem scImg : FnScope nImg ["p", "table"] (defScope sImg) := ⟨rfl, rfl, rfl, by decide +kernel, rfl, by decide +kernel, by decide +kernel⟩
set_option maxHeartbeats 4000000 in
theorem ok_Img {f f_low : Addr} {fd fd_low : FuncData} {k : Nat} (F : Fun K "image" "image" sImg f fd)
    (G_low : FnOk P w K mg base CX0 (k + 2) f_low fd_low ["p", "rows"] spLow) (b_low : Binds K fd_low ["p", "rows"] []) (k_low : PySem.W.keepIn K (.ref f_low) = true) (m_low : mg "low" = some (.ref f_low))
     : FnOk P w K mg base CX0 (k + 3) f fd ["p", "table"] spLow := by
  refine F.ok scImg (fun vs H Q E h => ?_) (fun cdv A outer s H vs Q E hr h => ?_)
  · obtain ⟨p, n, a, rs, M, rfl, _⟩ := h
    rfl
  · obtain ⟨p, n, a, rs, M, rfl, h5, hn, tA, wA, lA, q⟩ := h
    refine ⟨_, pss_one (ps_ret (pe_call G_low hr (by rfl) m_low k_low b_low .nil pass0 (pa_cons (pv 0) (pa_cons (pv 1) pa_nil)))), ?_⟩
    exact ⟨_, rfl, _, rfl, ⟨p, n, a, rs, M, rfl, h5, hn, tA, wA, lA, q⟩⟩
end

/-! ### turned -/
section
variable {P : Program} {w : World} {K : PySem.W.Frag} {mg : Str → Option Value} {base : Heap}
abbrev sTrn : Stmt := topS 14
abbrev nTrn : List Str := ["table", "column"]
theorem scTrn : FnScope nTrn ["table"] (defScope sTrn) := ⟨rfl, rfl, rfl, by decide +kernel, rfl, by decide +kernel, by decide +kernel⟩
def spTrn : Sp := fun vs H Q _ => ∃ (n : Nat) (a : Addr) (rs : List Addr) (A : List Row), vs = [.ref a] ∧ Tab H a rs A ∧ (∀ r ∈ A, r.length = n) ∧ 0 < A.length ∧ A.length ≤ 900 ∧ n ≤ 900 ∧ ∀ H' z us, Same H H' → H z = none → Tab H' z us (trM n A) → (∀ u ∈ us, H u = none) → Q (.ref z) H'
set_option maxHeartbeats 4000000 in
theorem ok_Trn {f : Addr} {fd : FuncData} {k : Nat} (F : Fun K "turned" "turned" sTrn f fd)
    (m_zip : mg "zip" = none) (m_list : mg "list" = none) : FnOk P w K mg base CX0 (k + 1) f fd ["table"] spTrn := by
  refine F.ok scTrn (fun vs H Q E h => ?_) (fun cdv A outer s H vs Q E hr h => ?_)
  · obtain ⟨n, a, rs, A, rfl, _⟩ := h
    rfl
  · obtain ⟨n, a, rs, A, rfl, tA, wA, lA0, lA, hn, q⟩ := h
    refine ⟨_, pss_one (ps_ret (pe_lc (own := [("column", 1)]) (g := (gName 1)) (tt := tYes) (by rfl) scTrn.nd (pi_zipS K rfl (by rfl) m_zip (pv 0)) (blkOk_by (own := [("column", 1)]) (N := nTrn) (sc := (defScope sTrn)) (by decide +kernel)) (fun _ _ _ _ _ => (pg_name (i := 1) scTrn.nd rfl (Or.inl rfl))) (fun _ _ _ _ _ => pts_nil) (fun _ _ _ _ _ => (pe_callTy (cLst K rfl) (by rfl) m_list (by decide +kernel) (pa_cons (pv 1) pa_nil))))), ?_⟩
    have hall : AllL K H rs (A.map iv) n := tA.allL wA
    refine ⟨_, rfl, a, rs, A.map iv, n, rfl, SqL.of tA.at_, by rintro rfl; have := tA.len; simp at this; omega, by have := tA.len; omega, hall, fun D hD => ?_⟩
    refine lc_it (walk_zipN (K := K) (ls := rs) (xss := A.map iv) (n := n)) (fun i H2 => ∃ us, Mw H D ((trM n A).take i) H2 us) ⟨[], Mw.start hD⟩ (fun i H2 _ hW => ?_) (fun i x H2 H3 hi hW y => ?_) (fun H2 hW => ?_)
    · obtain ⟨us, mw⟩ := hW
      exact hall.same mw.same
    · obtain ⟨us, mw⟩ := hW
      obtain ⟨T, rfl, nT, rfl⟩ := y
      have sT : Same H2 (L2.upd H2 T (.tup ((A.map iv).map fun xs => xs.getD i .non))) := same_new nT
      refine ⟨rfl, t_yes ?_⟩
      refine ⟨_, rfl, T, _, rfl, .inr (SqT.of upd_same), fun u nu => ?_⟩
      have iu : IL (L2.upd (L2.upd H2 T (.tup ((A.map iv).map fun xs => xs.getD i .non))) u (.lst ((A.map iv).map fun xs => xs.getD i .non))) u (A.map fun r => ent r i) := by
        show (L2.upd _ u _) u = _
        rw [upd_same, List.map_map]
        show some (HO.lst _) = some (HO.lst ((A.map fun r => ent r i).map V.int))
        rw [List.map_map]
        congr 2
        refine List.map_congr_left fun r hr => ?_
        have hlt : i < r.length := by rw [wA r hr]; exact hi
        show (iv r).getD i .non = .int (ent r i)
        rw [List.getD_eq_getElem?_getD, iv_ent hlt]
        rfl
      obtain ⟨acc, a1, a2, a3⟩ := mw.push hD (sT.trans (same_new nu)) (sT.free nu) iu (by rw [List.length_take, trM_len]; omega)
      refine ⟨acc, a1, a2, us ++ [u], ?_⟩
      rw [List.take_add_one, trM_get hi]
      exact a3
    · obtain ⟨us, mw⟩ := hW
      rw [List.take_of_length_le (by rw [trM_len]; exact Nat.le_refl _)] at mw
      exact q H2 D us mw.same hD mw.tab mw.fresh
end

/-! ### to_nought -/
section
variable {P : Program} {w : World} {K : PySem.W.Frag} {mg : Str → Option Value} {base : Heap}
abbrev sTon : Stmt := topS 17
abbrev nTon : List Str := ["p", "table"]
theorem scTon : FnScope nTon ["p", "table"] (defScope sTon) := ⟨rfl, rfl, rfl, by decide +kernel, rfl, by decide +kernel, by decide +kernel⟩
def spTon : Sp := fun vs H Q _ => ∃ (p : Int) (n : Nat) (a : Addr) (rs : List Addr) (A : List Row), vs = [.int p, .ref a] ∧ P5 p ∧ n ≤ 100 ∧ Tab H a rs A ∧ Wfs p n A ∧ 0 < A.length ∧ A.length ≤ 100 ∧ ∀ H' z us N, Same H H' → H z = none → Tab H' z us N → Nought p (invM p) n A N → (∀ u ∈ us, H u = none) → us.Nodup → Q (.ref z) H'
set_option maxHeartbeats 4000000 in
theorem ok_Ton {f f_across f_image f_turned : Addr} {fd fd_across fd_image fd_turned : FuncData} {k : Nat} (F : Fun K "to_nought" "to_nought" sTon f fd)
    (G_across : FnOk P w K mg base CX0 (k + 3) f_across fd_across ["p", "length", "form"] spAcr) (b_across : Binds K fd_across ["p", "length", "form"] []) (k_across : PySem.W.keepIn K (.ref f_across) = true) (m_across : mg "across" = some (.ref f_across))
    (G_image : FnOk P w K mg base CX0 (k + 3) f_image fd_image ["p", "table"] spLow) (b_image : Binds K fd_image ["p", "table"] []) (k_image : PySem.W.keepIn K (.ref f_image) = true) (m_image : mg "image" = some (.ref f_image))
    (G_turned : FnOk P w K mg base CX0 (k + 3) f_turned fd_turned ["table"] spTrn) (b_turned : Binds K fd_turned ["table"] []) (k_turned : PySem.W.keepIn K (.ref f_turned) = true) (m_turned : mg "turned" = some (.ref f_turned))
    (m_len : mg "len" = none) : FnOk P w K mg base CX0 (k + 4) f fd ["p", "table"] spTon := by
  refine F.ok scTon (fun vs H Q E h => ?_) (fun cdv A outer s H vs Q E hr h => ?_)
  · obtain ⟨p, n, a, rs, A, rfl, _⟩ := h
    rfl
  · obtain ⟨p, n, a, rs, A, rfl, h5, hn, tA, wA, lA, lA2, q⟩ := h
    refine ⟨_, pss_one (ps_ret (pe_call G_across hr (by rfl) m_across k_across b_across .nil pass0 (pa_cons (pv 0) (pa_cons (pe_callB (cLen K rfl) (by rfl) m_len PySem.boot_len (pa_cons (pv 1) pa_nil)) (pa_cons (pe_call G_image hr (by rfl) m_image k_image b_image .nil pass0 (pa_cons (pv 0) (pa_cons (pe_call G_turned hr (by rfl) m_turned k_turned b_turned .nil pass0 (pa_cons (pv 1) pa_nil)) pa_nil))) pa_nil))))), ?_⟩
    have two := h5.two
    obtain ⟨ls, L, _⟩ := lowM_ok two (inv_is h5) (trM_wf wA (n := n))
    refine ⟨_, rfl, _, rfl, a, _, rfl, .inl (SqL.of tA.at_), _, rfl, _, rfl, ⟨n, a, rs, A, rfl, tA, fun r hr => (wA r hr).len, lA, by omega, by omega, fun H1 x xs s1 nx tx fx => ?_⟩⟩
    refine ⟨p, A.length, x, xs, trM n A, rfl, h5, lA2, tx, trM_wf wA, by rw [trM_len]; exact hn, fun H2 y ys s2 ny ty fy dy => ?_⟩
    have el : ((rf rs).length : Int) = (A.length : Int) := by rw [List.length_map, tA.len]
    rw [el]
    refine ⟨p, A.length, y, ys, _, ls, rfl, h5, lA2, ty, L, fun H3 z us s3 nz tz fz dz => ?_⟩
    have s12 := s1.trans s2
    exact q H3 z us _ (s12.trans s3) (s12.free nz) tz (nought_ok two (inv_is h5) wA L) (fun u hu => s12.free (fz u hu)) dz
end


/-! ### with_one_behind -/
section
variable {P : Program} {w : World} {K : PySem.W.Frag} {mg : Str → Option Value} {base : Heap}
abbrev sWob : Stmt := topS 5
theorem scWob : FnScope ["p", "poly"] ["p", "poly"] (defScope sWob) := ⟨rfl, rfl, rfl, by decide +kernel, rfl, by decide +kernel, by decide +kernel⟩
def spWob : Sp := fun vs H Q _ => ∃ (p : Int) (a : Addr) (m : Row), vs = [.int p, .ref a] ∧ P5 p ∧ IL H a m ∧ Pol p m ∧ m.length ≤ 100 ∧ ∀ H' q, Same H H' → H q = none → IL H' q (mon p m) → Q (.ref q) H'
theorem ok_wob {f fI fM : Addr} {fd fdI fdM : FuncData} {k : Nat} (F : Fun K "with_one_behind" "with_one_behind" sWob f fd)
    (GI : FnOk P w K mg base CX0 (k + 1) fI fdI ["p", "rest"] spInv) (bI : Binds K fdI ["p", "rest"] []) (kI : PySem.W.keepIn K (.ref fI) = true) (mI : mg "inverse" = some (.ref fI))
    (GM : FnOk P w K mg base CX0 (k + 1) fM fdM ["p", "rest", "rests"] spMul) (bM : Binds K fdM ["p", "rest", "rests"] []) (kM : PySem.W.keepIn K (.ref fM) = true) (mM : mg "multiplied_by" = some (.ref fM)) : FnOk P w K mg base CX0 (k + 2) f fd ["p", "poly"] spWob := by
  refine F.ok scWob (fun vs H Q E h => ?_) (fun cdv A outer s H vs Q E hr h => ?_)
  · obtain ⟨p, a, m, rfl, _⟩ := h
    rfl
  · obtain ⟨p, a, m, rfl, h5, im, M1, lm, q⟩ := h
    refine ⟨_, pss_cons (ps_if (pt_not (pt_truth (pv 1) (by intro _; rfl))) (pss_one (ps_ret (pe_lst pa_nil))) pss_nil)
      (pss_one (ps_ret (pe_call GM hr (by rfl) mM kM bM .nil pass0 (pa_cons (pv 0) (pa_cons (pe_call GI hr (by rfl) mI kI bI .nil pass0 (pa_cons (pv 0) (pa_cons (pe_ix ix_list (pv 1) (pe_un un_neg pe_int) (fun _ _ => rfl)) pa_nil))) (pa_cons (pv 1) pa_nil)))))), ?_⟩
    have two := h5.two
    have le := h5.le
    refine ⟨_, rfl, !(iv m).isEmpty, .inl ⟨_, IL.sq im, rfl⟩, ?_⟩
    cases m with
    | nil => exact iteT ⟨Nat.zero_le _, fun z nz => q _ z (same_new nz) nz upd_same⟩
    | cons x xs =>
      have nm : x :: xs ≠ [] := by simp
      have rl := last_rng (show 0 < p by omega) M1 nm
      obtain ⟨i1, i2, _⟩ := mon_inv h5 M1 nm
      refine iteF ?_
      refine ⟨_, rfl, _, rfl, _, rfl, _, rfl, a, _, _, _, rfl, rfl, IL.sq im, at_last nm, ⟨p, lastE (x :: xs), rfl, h5, rl.1, rl.2, ?_⟩⟩
      refine ⟨_, rfl, ⟨p, _, a, x :: xs, rfl, by omega, by omega, by omega, im, by omega, fun H' z s1 nz iz => q H' z s1 nz ?_⟩⟩
      rw [mon_of nm]
      exact iz
end

/-! ### flat -/
section
variable {P : Program} {w : World} {K : PySem.W.Frag} {mg : Str → Option Value} {base : Heap}
abbrev sFlt : Stmt := topS 18
abbrev nFlt : List Str := ["table", "row", "number"]
theorem scFlt : FnScope nFlt ["table"] (defScope sFlt) := ⟨rfl, rfl, rfl, by decide +kernel, rfl, by decide +kernel, by decide +kernel⟩
def spFlt : Sp := fun vs H Q _ => ∃ (n : Nat) (a : Addr) (rs : List Addr) (M : List Row), vs = [.ref a] ∧ Tab H a rs M ∧ (∀ r ∈ M, r.length = n) ∧ M.length ≤ 30 ∧ n ≤ 30 ∧ ∀ H' z, Same H H' → H z = none → IL H' z M.flatten → Q (.ref z) H'
set_option maxHeartbeats 4000000 in
theorem ok_Flt {f : Addr} {fd : FuncData} {k : Nat} (F : Fun K "flat" "flat" sFlt f fd)
     : FnOk P w K mg base CX0 (k + 1) f fd ["table"] spFlt := by
  refine F.ok scFlt (fun vs H Q E h => ?_) (fun cdv A outer s H vs Q E hr h => ?_)
  · obtain ⟨n, a, rs, M, rfl, _⟩ := h
    rfl
  · obtain ⟨n, a, rs, M, rfl, tM, hl, hM, hn, q⟩ := h
    refine ⟨_, pss_one (ps_ret (pe_lc2 (own := [("row", 1), ("number", 2)]) (vs1 := [2]) (g := (gName 1)) (g1 := (gName 2)) (tt := tYes) (tt1 := tYes) (by rfl) scFlt.nd (piL K rfl (pv 0)) (blkOk_by (own := [("row", 1), ("number", 2)]) (N := nFlt) (sc := (defScope sFlt)) (by decide +kernel)) (by decide) (fun _ _ _ _ _ => (pg_name (i := 1) scFlt.nd rfl (Or.inl rfl))) (fun _ _ _ _ _ => pts_nil) (fun _ _ _ _ _ => (piL K rfl (pv 1))) (fun _ _ _ _ _ => (pg_name (i := 2) scFlt.nd rfl (Or.inl rfl))) (fun _ _ _ _ _ => pts_nil) (fun _ _ _ _ _ => (pv 2)))), ?_⟩
    have big : M.length * n ≤ 900 := Nat.mul_le_mul hM hn
    have fl := flat_len hl
    refine ⟨_, rfl, a, rfl, ⟨_, SqL.of tM.at_⟩, fun D hD => ?_⟩
    refine out_it (walk_list (K := K) (a := a) (xs := rf rs)) (fun i H2 => Same H H2 ∧ H2 D = some (.lst (iv (M.take i).flatten))) ⟨same_new hD, upd_same⟩ (fun i H2 _ h => SqL.of (h.1 _ _ tM.at_)) (fun i x H2 H3 hi hW y => ?_) (fun H2 hW => ?_)
    · obtain ⟨rfl, hx⟩ := y
      obtain ⟨s2, e2⟩ := hW
      obtain ⟨r, hr', rfl⟩ := rf_inv hx
      obtain ⟨m, hm⟩ := get_of (l := M) (i := i) (by have := get_lt hr'; have := tM.len; omega)
      have ir : IL H3 r m := s2 _ _ (tM.row i r m hr' hm)
      have lm := hl m (List.mem_of_getElem? hm)
      refine ⟨rfl, c_yes ?_⟩
      refine ⟨_, rfl, r, rfl, ⟨_, IL.sq ir⟩, ?_⟩
      refine out_it (walk_list (K := K) (a := r) (xs := iv m)) (fun j H4 => Same H H4 ∧ H4 D = some (.lst (iv ((M.take i).flatten ++ m.take j)))) ⟨s2, by rw [List.take_zero, List.append_nil]; exact e2⟩ (fun j H4 _ h => h.1.seq (IL.sq (tM.row i r m hr' hm))) (fun j x H4 H5 hj hW y => ?_) (fun H4 hW => ?_)
      · obtain ⟨rfl, hx2⟩ := y
        obtain ⟨s4, e4⟩ := hW
        obtain ⟨z, hz, rfl⟩ := iv_inv hx2
        refine ⟨rfl, c_yes ?_⟩
        have lt : (M.take i).flatten.length ≤ 900 := by
          rw [flat_len fun r hr => hl r (List.mem_of_mem_take hr)]
          have := Nat.mul_le_mul_right n (show (M.take i).length ≤ M.length by rw [List.length_take]; omega)
          omega
        refine ⟨_, rfl, _, e4, ?_, ?_⟩
        · rw [List.length_map, List.length_append, List.length_take]
          have := get_lt hz
          exact small1000 (by omega)
        · refine ⟨same_upd hD s4, ?_⟩
          rw [upd_same, ← take_snoc hz, ← List.append_assoc]
          show some (HO.lst (((M.take i).flatten ++ m.take j).map V.int ++ [V.int z])) = some (.lst (((M.take i).flatten ++ m.take j ++ [z]).map V.int))
          generalize (M.take i).flatten ++ m.take j = G
          rw [List.map_append]
          rfl
      · obtain ⟨s4, e4⟩ := hW
        rw [List.length_map, List.take_length] at e4
        refine ⟨s4, ?_⟩
        rw [← take_snoc hm, List.flatten_append, List.flatten_singleton]
        exact e4
    · obtain ⟨s2, e2⟩ := hW
      rw [List.length_map, tM.len, List.take_length] at e2
      exact q H2 D s2 hD e2
end

/-! ### least -/
section
variable {P : Program} {w : World} {K : PySem.W.Frag} {mg : Str → Option Value} {base : Heap}
theorem whW {c : TTw} {tb u : TS} {D : Ends} {σ : L2.St} {H : Hp} (Pv : Nat → L2.St → Hp → Prop) (m0 : Nat) (h0 : Pv m0 σ H)
    (h : ∀ m σ H, Pv m σ H → c σ H fun b σ1 H1 => if b = true then ∃ N : L2.St → Hp → Prop, (∀ σ' H', N σ' H' → ∃ m', m' < m ∧ Pv m' σ' H') ∧ tb { D with nx := N, ct := N, bk := D.nx } σ1 H1 else u D σ1 H1) : tWhileW c tb u D σ H := ⟨Pv, ⟨m0, h0⟩, h⟩
abbrev sLea : Stmt := topS 19
abbrev nLea : List Str := ["p", "table", "power", "powers", "found"]
theorem scLea : FnScope nLea ["p", "table"] (defScope sLea) := ⟨rfl, rfl, rfl, by decide +kernel, rfl, by decide +kernel, by decide +kernel⟩
def spLea : Sp := fun vs H Q _ => ∃ (p : Int) (n : Nat) (a : Addr) (rs : List Addr) (A : List Row), vs = [.int p, .ref a] ∧ P5 p ∧ 0 < n ∧ n ≤ 6 ∧ Tab H a rs A ∧ Wfs p n A ∧ A.length = n ∧ ∀ H' z m f, Same H H' → H z = none → IL H' z f → Lst p (n * n) (flP p n A) m f → m ≤ n → Q (.ref z) H'
set_option maxHeartbeats 4000000 in
theorem ok_Lea {f f_plain f_flat f_to_nought f_product f_with_one_behind : Addr} {fd fd_plain fd_flat fd_to_nought fd_product fd_with_one_behind : FuncData} {k : Nat} (F : Fun K "least" "least" sLea f fd)
    (G_plain : FnOk P w K mg base CX0 (k + 4) f_plain fd_plain ["size"] spPln) (b_plain : Binds K fd_plain ["size"] []) (k_plain : PySem.W.keepIn K (.ref f_plain) = true) (m_plain : mg "plain" = some (.ref f_plain))
    (G_flat : FnOk P w K mg base CX0 (k + 4) f_flat fd_flat ["table"] spFlt) (b_flat : Binds K fd_flat ["table"] []) (k_flat : PySem.W.keepIn K (.ref f_flat) = true) (m_flat : mg "flat" = some (.ref f_flat))
    (G_to_nought : FnOk P w K mg base CX0 (k + 4) f_to_nought fd_to_nought ["p", "table"] spTon) (b_to_nought : Binds K fd_to_nought ["p", "table"] []) (k_to_nought : PySem.W.keepIn K (.ref f_to_nought) = true) (m_to_nought : mg "to_nought" = some (.ref f_to_nought))
    (G_product : FnOk P w K mg base CX0 (k + 4) f_product fd_product ["p", "one", "other"] spPrd) (b_product : Binds K fd_product ["p", "one", "other"] []) (k_product : PySem.W.keepIn K (.ref f_product) = true) (m_product : mg "product" = some (.ref f_product))
    (G_with_one_behind : FnOk P w K mg base CX0 (k + 4) f_with_one_behind fd_with_one_behind ["p", "poly"] spWob) (b_with_one_behind : Binds K fd_with_one_behind ["p", "poly"] []) (k_with_one_behind : PySem.W.keepIn K (.ref f_with_one_behind) = true) (m_with_one_behind : mg "with_one_behind" = some (.ref f_with_one_behind))
    (m_len : mg "len" = none) : FnOk P w K mg base CX0 (k + 5) f fd ["p", "table"] spLea := by
  refine F.ok scLea (fun vs H Q E h => ?_) (fun cdv A outer s H vs Q E hr h => ?_)
  · obtain ⟨p, n, a, rs, A, rfl, _⟩ := h
    rfl
  · obtain ⟨p, n, a, rs, A, rfl, h5, n0, hn, tA, wA, lA, q⟩ := h
    refine ⟨_, pss_cons (ps_set (i := 2) scLea.nd rfl (.inl rfl) (pe_call G_plain hr (by rfl) m_plain k_plain b_plain .nil pass0 (pa_cons (pe_callB (cLen K rfl) (by rfl) m_len PySem.boot_len (pa_cons (pv 1) pa_nil)) pa_nil)))
      (pss_cons (ps_set (i := 3) scLea.nd rfl (.inl rfl) (pe_lst (pa_cons (pe_call G_flat hr (by rfl) m_flat k_flat b_flat .nil pass0 (pa_cons (pv 2) pa_nil)) pa_nil)))
      (pss_cons (ps_whileW PassesOwn.never (ptw_not (ptw_truth (pew_named (i := 4) scLea.nd rfl (.inl rfl) (pew_of (pe_call G_to_nought hr (by rfl) m_to_nought k_to_nought b_to_nought .nil pass0 (pa_cons (pv 0) (pa_cons (pv 3) pa_nil)))))))
        (pss_cons (ps_set (i := 2) scLea.nd rfl (.inl rfl) (pe_call G_product hr (by rfl) m_product k_product b_product .nil pass0 (pa_cons (pv 0) (pa_cons (pv 2) (pa_cons (pv 1) pa_nil)))))
        (pss_one (ps_expr (pe_bm PySem.F.plainAttrs_list PySem.F.slot_list_append PySem.F.type_list_append mt_append (pv 3) (pa_cons (pe_call G_flat hr (by rfl) m_flat k_flat b_flat .nil pass0 (pa_cons (pv 2) pa_nil)) pa_nil))))) pss_nil)
      (pss_one (ps_ret (pe_call G_with_one_behind hr (by rfl) m_with_one_behind k_with_one_behind b_with_one_behind .nil pass0 (pa_cons (pv 0) (pa_cons (pe_ix (ixL K) (pv 4) pe_int (fun _ _ => rfl)) pa_nil))))))), ?_⟩
    have two := h5.two
    have le := h5.le
    have hv := inv_is h5
    have nn : n * n ≤ 36 := Nat.mul_le_mul hn hn
    have nn0 : 0 < n * n := Nat.mul_pos n0 n0
    have wP := flP_wf (p := p) (n := n) (by omega) (A := A)
    have lrs := tA.len
    refine ⟨_, rfl, a, _, rfl, .inl (SqL.of tA.at_), ?_⟩
    rw [List.length_map, lrs, lA]
    refine ⟨n, rfl, by omega, fun H1 z zs s1 nz tz fz => ?_⟩
    have tz : Tab H1 z zs (powM p n A 0) := by
      rw [← plain_pow two, plain_id]
      exact tz
    refine ⟨_, rfl, ⟨n, z, zs, _, rfl, tz, fun r hr => (pow_wf (by omega) r hr).len, by rw [pow_len]; omega, by omega, fun H2 u s2 nu iu => ?_⟩⟩
    refine ⟨(by show 1 ≤ sizeLine; decide), fun P nP => ?_⟩
    have s3 : Same H2 (L2.upd H2 P (.lst [.ref u])) := same_new nP
    have s02 := s1.trans s2
    have tP : Tab (L2.upd H2 P (.lst [.ref u])) P [u] (runL (flP p n A) 1) := Tab.one upd_same (s3 _ _ iu)
    have tzw : Tab (wo P (L2.upd H2 P (.lst [.ref u]))) z zs (powM p n A 0) := by
      have t2 := tz.same s2
      refine tabWo (t2.same s3) (fun e => ?_) fun q hq e => ?_
      · have := t2.at_
        rw [e, nP] at this
        cases this
      · obtain ⟨m, _, hm⟩ := IL.ref t2 hq
        rw [e] at hm
        exact absurd ((show H2 P = _ from hm).symm.trans nP) (by simp)
    have sH := s02.trans s3
    have nPH := same_none s02 nP
    generalize L2.upd H2 P (.lst [.ref u]) = H3 at *
    refine step_seq ?_
    show tWhileW _ _ _ _ [some (.int p), some (.ref a), some (.ref z), some (.ref P), none] _
    refine whW (fun mm σ H' => ∃ m z zs ps y4, σ = [some (.int p), some (.ref a), some (.ref z), some (.ref P), y4] ∧ mm = n * n - m ∧ Same H H' ∧ Tab (wo P H') z zs (powM p n A m) ∧ Tab H' P ps (runL (flP p n A) (m + 1)) ∧ (lowM p (invM p) (runL (flP p n A) m)).length = m) _
      ⟨0, z, zs, [u], none, rfl, rfl, sH, tzw, tP, rfl⟩ fun mm σ H' hW => ?_
    clear tP tzw tz
    obtain ⟨m, z, zs, ps, y4, rfl, rfl, sm, tz, tP, fr⟩ := hW
    have few := free_few two hv wP fr
    refine ⟨_, rfl, _, rfl, ⟨p, n * n, P, ps, _, rfl, h5, by omega, tP, runL_wf wP _, by rw [runL_len]; omega, by rw [runL_len]; omega, fun H4 y ys N s4 ny ty hN fy _ => ?_⟩⟩
    refine ⟨!(rf ys).isEmpty, .inl ⟨_, SqL.of ty.at_, rfl⟩, ?_⟩
    by_cases c : N = []
    · subst c
      have ey : ys = [] := List.length_eq_zero_iff.mp (by simpa using ty.len)
      rw [ey]
      refine iteT ?_
      refine ⟨_, fun σ' H' h => h, ?_⟩
      have fr2 := free_of hN
      have few2 := free_few two hv wP fr2
      have tz4 := tz.same (same_wo s4)
      refine ⟨_, rfl, _, rfl, _, rfl, ⟨p, n, n, z, a, zs, _, rs, A, rfl, by omega, le, tz4.same wo_same, pow_wf (by omega), tA.same (sm.trans s4), wA, by omega, by omega, by omega, by rw [pow_len]; omega, by omega, fun H5 z2 zs2 s5 nz2 tz2 fz2 => ?_⟩⟩
      rw [pow_step two lA] at tz2
      have tP5 := tP.same (s4.trans s5)
      refine ⟨_, rfl, .inl ⟨rfl, _, SqL.of tP5.at_⟩, _, rfl, ⟨n, z2, zs2, _, rfl, tz2, fun r hr => (pow_wf (by omega) r hr).len, by rw [pow_len]; omega, by omega, fun H6 u2 s6 nu2 iu2 => ?_⟩⟩
      have tP6 := tP5.same s6
      have lps := tP6.len
      rw [runL_len] at lps
      have eP4 : H4 P = some (.lst (rf ps)) := s4 _ _ tP.at_
      have uP : u2 ≠ P := fun e => by rw [e, tP5.at_] at nu2; cases nu2
      refine ⟨P, _, _, rfl, rfl, tP6.at_, by rw [List.length_map]; exact small1000 (by omega), ?_⟩
      have tP7 := tP6.push iu2 uP
      have ew : wo P (L2.upd H6 P (.lst (rf ps ++ [.ref u2]))) = wo P H6 := wo_upd
      refine ⟨n * n - (m + 1), by omega, m + 1, z2, zs2, ps ++ [u2], _, rfl, rfl, same_upd nPH ((sm.trans s4).trans (s5.trans s6)), ?_, ?_, fr2⟩
      · rw [ew]
        exact (tabWoN tz2 eP4 nz2 fz2).same (same_wo s6)
      · rw [runL_succ (m := m + 1)]
        exact tP7
    · have ye : ys ≠ [] := fun e => c (List.length_eq_zero_iff.mp (by rw [← ty.len, e]; rfl))
      have hE : (rf ys).isEmpty = false := by
        cases ys with
        | nil => exact absurd rfl ye
        | cons x xs => rfl
      rw [hE]
      refine iteF ?_
      obtain ⟨x, hx, lx, px, L⟩ := lst_of h5 wP c hN fr
      obtain ⟨x0, hx0⟩ := get_of (l := ys) (i := 0) (List.length_pos_iff.mpr ye)
      have ix := ty.row 0 x0 x hx0 hx
      refine ⟨_, rfl, _, rfl, y, _, _, _, rfl, rfl, SqL.of ty.at_, atI_nat (j := 0) (rf_get hx0), ⟨p, x0, x, rfl, h5, ix, px, by omega, fun H5 w s5 nw_ iw => ?_⟩⟩
      exact q H5 w m _ ((sm.trans s4).trans s5) (same_none (sm.trans s4) nw_) iw L (least_deg h5 n0 fr)
end

/-! ### least_of -/
section
variable {P : Program} {w : World} {K : PySem.W.Frag} {mg : Str → Option Value} {base : Heap}
abbrev sLeo : Stmt := topS 20
abbrev nLeo : List Str := ["p", "table", "row", "rows", "found"]
theorem scLeo : FnScope nLeo ["p", "table", "row"] (defScope sLeo) := ⟨rfl, rfl, rfl, by decide +kernel, rfl, by decide +kernel, by decide +kernel⟩
def spLeo : Sp := fun vs H Q _ => ∃ (p : Int) (n : Nat) (a : Addr) (rs : List Addr) (A : List Row) (b : Addr) (v : Row), vs = [.int p, .ref a, .ref b] ∧ P5 p ∧ 0 < n ∧ n ≤ 6 ∧ Tab H a rs A ∧ Wfs p n A ∧ A.length = n ∧ IL H b v ∧ Wf p n v ∧ ∀ H' z m f, Same H H' → H z = none → IL H' z f → Lst p n (orb p n A v) m f → m ≤ n → Q (.ref z) H'
set_option maxHeartbeats 4000000 in
theorem ok_Leo {f f_to_nought f_led f_with_one_behind : Addr} {fd fd_to_nought fd_led fd_with_one_behind : FuncData} {k : Nat} (F : Fun K "least_of" "least_of" sLeo f fd)
    (G_to_nought : FnOk P w K mg base CX0 (k + 4) f_to_nought fd_to_nought ["p", "table"] spTon) (b_to_nought : Binds K fd_to_nought ["p", "table"] []) (k_to_nought : PySem.W.keepIn K (.ref f_to_nought) = true) (m_to_nought : mg "to_nought" = some (.ref f_to_nought))
    (G_led : FnOk P w K mg base CX0 (k + 4) f_led fd_led ["p", "row", "table"] spLed) (b_led : Binds K fd_led ["p", "row", "table"] []) (k_led : PySem.W.keepIn K (.ref f_led) = true) (m_led : mg "led" = some (.ref f_led))
    (G_with_one_behind : FnOk P w K mg base CX0 (k + 4) f_with_one_behind fd_with_one_behind ["p", "poly"] spWob) (b_with_one_behind : Binds K fd_with_one_behind ["p", "poly"] []) (k_with_one_behind : PySem.W.keepIn K (.ref f_with_one_behind) = true) (m_with_one_behind : mg "with_one_behind" = some (.ref f_with_one_behind))
     : FnOk P w K mg base CX0 (k + 5) f fd ["p", "table", "row"] spLeo := by
  refine F.ok scLeo (fun vs H Q E h => ?_) (fun cdv A outer s H vs Q E hr h => ?_)
  · obtain ⟨p, n, a, rs, A, b, v, rfl, _⟩ := h
    rfl
  · obtain ⟨p, n, a, rs, A, b, v, rfl, h5, n0, hn, tA, wA, lA, ib, wv, q⟩ := h
    refine ⟨_, pss_cons (ps_set (i := 3) scLeo.nd rfl (.inl rfl) (pe_lst (pa_cons (pv 2) pa_nil)))
      (pss_cons (ps_whileW PassesOwn.never (ptw_not (ptw_truth (pew_named (i := 4) scLeo.nd rfl (.inl rfl) (pew_of (pe_call G_to_nought hr (by rfl) m_to_nought k_to_nought b_to_nought .nil pass0 (pa_cons (pv 0) (pa_cons (pv 3) pa_nil)))))))
        (pss_one (ps_expr (pe_bm PySem.F.plainAttrs_list PySem.F.slot_list_append PySem.F.type_list_append mt_append (pv 3) (pa_cons (pe_call G_led hr (by rfl) m_led k_led b_led .nil pass0 (pa_cons (pv 0) (pa_cons (pe_ix (ixL K) (pv 3) (pe_un un_neg pe_int) (fun _ _ => rfl)) (pa_cons (pv 1) pa_nil)))) pa_nil)))) pss_nil)
      (pss_one (ps_ret (pe_call G_with_one_behind hr (by rfl) m_with_one_behind k_with_one_behind b_with_one_behind .nil pass0 (pa_cons (pv 0) (pa_cons (pe_ix (ixL K) (pv 4) pe_int (fun _ _ => rfl)) pa_nil)))))), ?_⟩
    have two := h5.two
    have le := h5.le
    have hv := inv_is h5
    have wP := orb_wf (p := p) (n := n) (by omega) (A := A) wv
    have lrs := tA.len
    refine ⟨_, rfl, (by show 1 ≤ sizeLine; decide), fun P nP => ?_⟩
    have s1 : Same H (L2.upd H P (.lst [.ref b])) := same_new nP
    have tP : Tab (L2.upd H P (.lst [.ref b])) P ([] ++ [b]) (runL (orb p n A v) 1) := Tab.one upd_same (s1 _ _ ib)
    generalize L2.upd H P (.lst [.ref b]) = H1 at *
    refine step_seq ?_
    show tWhileW _ _ _ _ [some (.int p), some (.ref a), some (.ref b), some (.ref P), none] _
    refine whW (fun mm σ H' => ∃ m ps r y4, σ = [some (.int p), some (.ref a), some (.ref b), some (.ref P), y4] ∧ mm = n - m ∧ Same H H' ∧ Tab H' P (ps ++ [r]) (runL (orb p n A v) (m + 1)) ∧ (lowM p (invM p) (runL (orb p n A v) m)).length = m) _
      ⟨0, [], b, none, rfl, rfl, s1, tP, rfl⟩ fun mm σ H' hW => ?_
    clear tP
    obtain ⟨m, ps, r, y4, rfl, rfl, sm, tP, fr⟩ := hW
    have few := free_few two hv wP fr
    have lps := tP.len
    rw [runL_len, List.length_append, List.length_singleton] at lps
    refine ⟨_, rfl, _, rfl, ⟨p, n, P, _, _, rfl, h5, by omega, tP, runL_wf wP _, by rw [runL_len]; omega, by rw [runL_len]; omega, fun H4 y ys N s4 ny ty hN fy _ => ?_⟩⟩
    refine ⟨!(rf ys).isEmpty, .inl ⟨_, SqL.of ty.at_, rfl⟩, ?_⟩
    by_cases c : N = []
    · subst c
      have ey : ys = [] := List.length_eq_zero_iff.mp (by simpa using ty.len)
      rw [ey]
      refine iteT ?_
      refine ⟨_, fun σ' H' h => h, ?_⟩
      have fr2 := free_of hN
      have few2 := free_few two hv wP fr2
      have tP4 := tP.same s4
      have ir : IL H4 r (orb p n A v m) := tP4.row m r _ (by rw [List.getElem?_append_right (by omega), show m - ps.length = 0 by omega]; rfl) (runL_get (by omega))
      have al : atI (rf (ps ++ [r])) (-1) = some (.ref r) := by
        show atI ((ps ++ [r]).map V.ref) (-1) = _
        rw [List.map_append]
        exact atI_last _ _
      refine ⟨_, rfl, .inl ⟨rfl, _, SqL.of tP4.at_⟩, _, rfl, _, rfl, _, rfl, P, _, _, _, rfl, rfl, SqL.of tP4.at_, al, _, rfl, ⟨p, n, r, a, _, rs, A, rfl, by omega, le, ir, (wP m).rng, tA.same (sm.trans s4), wA, by rw [(wP m).len, lA], by omega, by omega, by omega, fun H5 u s5 nu iu => ?_⟩⟩
      have tP5 := tP4.same s5
      have uP : u ≠ P := fun e => by rw [e, tP4.at_] at nu; cases nu
      refine ⟨P, _, _, rfl, rfl, tP5.at_, by rw [List.length_map, List.length_append, List.length_singleton]; exact small1000 (by omega), ?_⟩
      have tP7 := tP5.push iu uP
      refine ⟨n - (m + 1), by omega, m + 1, ps ++ [r], u, _, rfl, rfl, same_upd nP ((sm.trans s4).trans s5), ?_, fr2⟩
      rw [runL_succ (m := m + 1)]
      exact tP7
    · have ye : ys ≠ [] := fun e => c (List.length_eq_zero_iff.mp (by rw [← ty.len, e]; rfl))
      have hE : (rf ys).isEmpty = false := by
        cases ys with
        | nil => exact absurd rfl ye
        | cons x xs => rfl
      rw [hE]
      refine iteF ?_
      obtain ⟨x, hx, lx, px, L⟩ := lst_of h5 wP c hN fr
      obtain ⟨x0, hx0⟩ := get_of (l := ys) (i := 0) (List.length_pos_iff.mpr ye)
      have ix := ty.row 0 x0 x hx0 hx
      refine ⟨_, rfl, _, rfl, y, _, _, _, rfl, rfl, SqL.of ty.at_, atI_nat (j := 0) (rf_get hx0), ⟨p, x0, x, rfl, h5, ix, px, by omega, fun H5 w s5 nw_ iw => ?_⟩⟩
      exact q H5 w m _ ((sm.trans s4).trans s5) (same_none (sm.trans s4) nw_) iw L few
end

/-! ### _law_flat -/
section
variable {P : Program} {w : World} {K : PySem.W.Frag} {mg : Str → Option Value} {base : Heap}
abbrev sLfl : Stmt := topS 40
abbrev nLfl : List Str := ["_law_table_here", "_law_found", "_law_row"]
theorem scLfl : FnScope nLfl ["_law_table_here"] (defScope sLfl) := ⟨rfl, rfl, rfl, by decide +kernel, rfl, by decide +kernel, by decide +kernel⟩
def spLfl : Sp := fun vs H Q _ => ∃ (n : Nat) (a : Addr) (rs : List Addr) (M : List Row), vs = [.ref a] ∧ Tab H a rs M ∧ (∀ r ∈ M, r.length = n) ∧ M.length ≤ 30 ∧ n ≤ 30 ∧ ∀ H' z, Same H H' → H z = none → IL H' z M.flatten → Q (.ref z) H'
set_option maxHeartbeats 4000000 in
theorem ok_Lfl {f : Addr} {fd : FuncData} {k : Nat} (F : Fun K "_law_flat" "_law_flat" sLfl f fd)
     : FnOk P w K mg base CX0 (k + 1) f fd ["_law_table_here"] spLfl := by
  refine F.ok scLfl (fun vs H Q E h => ?_) (fun cdv A outer s H vs Q E hr h => ?_)
  · obtain ⟨n, a, rs, M, rfl, _⟩ := h
    rfl
  · obtain ⟨n, a, rs, M, rfl, tM, hl, hM, hn, q⟩ := h
    refine ⟨_, pss_cons (ps_set (i := 1) scLfl.nd rfl (.inl rfl) (pe_lst pa_nil))
      (pss_cons (ps_for PassesOwn.never rfl (piL K rfl (pv 0)) (pg_name (i := 2) scLfl.nd rfl (Or.inl rfl))
        (pss_one (ps_set (i := 1) scLfl.nd rfl (.inl rfl) (pe_op op_cat (pv 1) (pv 2)))))
      (pss_one (ps_ret (pv 1)))), ?_⟩
    have big : M.length * n ≤ 900 := Nat.mul_le_mul hM hn
    refine ⟨(by show 0 ≤ sizeLine; decide), fun D hD => ?_⟩
    have s1 : Same H (L2.upd H D (.lst [])) := same_new hD
    have i1 : IL (L2.upd H D (.lst [])) D [] := upd_same
    generalize L2.upd H D (.lst []) = H1 at *
    refine ⟨_, rfl, a, rfl, ⟨_, SqL.of (s1 _ _ tM.at_)⟩, ?_⟩
    refine for_list (K := K) (a := a) (xs := rf rs) (fun i σ H2 => ∃ D y2, σ = [some (.ref a), some (.ref D), y2] ∧ Same H H2 ∧ H D = none ∧ IL H2 D (M.take i).flatten) ⟨D, none, rfl, s1, hD, i1⟩ (fun i σ H2 _ hW => ?_) (fun i x σ H2 hx hW => ?_) (fun σ H2 hW => ?_)
    · obtain ⟨_, _, _, s2, _⟩ := hW
      exact SqL.of (s2 _ _ tM.at_)
    · obtain ⟨D, y2, rfl, s2, nD, iD⟩ := hW
      obtain ⟨r, hr', rfl⟩ := rf_inv hx
      obtain ⟨m, hm⟩ := get_of (l := M) (i := i) (by have := get_lt hr'; have := tM.len; omega)
      have ir : IL H2 r m := s2 _ _ (tM.row i r m hr' hm)
      have lm := hl m (List.mem_of_getElem? hm)
      have lt : (M.take (i + 1)).flatten.length ≤ 900 := by
        rw [flat_len fun r hr => hl r (List.mem_of_mem_take hr)]
        have := Nat.mul_le_mul_right n (show (M.take (i + 1)).length ≤ M.length by rw [List.length_take]; omega)
        omega
      have ef : (M.take (i + 1)).flatten = (M.take i).flatten ++ m := by rw [← take_snoc hm, List.flatten_append, List.flatten_singleton]
      rw [ef, List.length_append] at lt
      refine ⟨_, rfl, _, rfl, D, r, _, _, rfl, rfl, iD, ir, by rw [List.length_map, List.length_map]; exact Nat.le_of_lt (small1000 (by omega)), fun v nv => ?_⟩
      refine ⟨v, _, rfl, s2.trans (same_new nv), same_none s2 nv, ?_⟩
      rw [ef]
      exact cat_il
    · obtain ⟨D, y2, rfl, s2, nD, iD⟩ := hW
      rw [List.length_map, tM.len, List.take_length] at iD
      exact ⟨_, rfl, q H2 D s2 nD iD⟩
end

/-! ### _law_mixture -/
section
variable {P : Program} {w : World} {K : PySem.W.Frag} {mg : Str → Option Value} {base : Heap}
abbrev sLmx : Stmt := topS 39
abbrev nLmx : List Str := ["_law_p", "_law_numbers", "_law_rows", "_law_found", "_law_number", "_law_row", "_law_a", "_law_b"]
theorem scLmx : FnScope nLmx ["_law_p", "_law_numbers", "_law_rows"] (defScope sLmx) := ⟨rfl, rfl, rfl, by decide +kernel, rfl, by decide +kernel, by decide +kernel⟩
def spLmx : Sp := fun vs H Q _ => ∃ (p : Int) (n : Nat) (a b : Addr) (u : Row) (rs : List Addr) (R : List Row), vs = [.int p, .ref a, .ref b] ∧ 0 < p ∧ p ≤ 11 ∧ n ≤ 100 ∧ IL H a u ∧ (∀ x ∈ u, 0 ≤ x ∧ x < p) ∧ Tab H b rs R ∧ Wfs p n R ∧ u.length = R.length ∧ 0 < R.length ∧ ∀ H' z, Same H H' → H z = none → IL H' z (mixM p u R n) → Q (.ref z) H'
set_option maxHeartbeats 4000000 in
theorem ok_Lmx {f : Addr} {fd : FuncData} {k : Nat} (F : Fun K "_law_mixture" "_law_mixture" sLmx f fd)
    (m_zip : mg "zip" = none) : FnOk P w K mg base CX0 (k + 1) f fd ["_law_p", "_law_numbers", "_law_rows"] spLmx := by
  refine F.ok scLmx (fun vs H Q E h => ?_) (fun cdv A outer s H vs Q E hr h => ?_)
  · obtain ⟨p, n, a, b, u, rs, R, rfl, _⟩ := h
    rfl
  · obtain ⟨p, n, a, b, u, rs, R, rfl, hp, hp2, hn, ia, ra, tR, wR, hl, h0, q⟩ := h
    refine ⟨_, pss_cons (ps_setLc (i := 3) (own := [("_law_number", 4)]) (g := (gName 4)) (tt := tYes) (by rfl) scLmx.nd rfl rfl (sw_true rfl rfl rfl (by decide +kernel)) (piL K rfl (pe_ix (ixL K) (pv 2) pe_int (fun _ _ => rfl))) (blkOk_by (own := [("_law_number", 4)]) (N := nLmx) (sc := (defScope sLmx)) (by decide +kernel)) (fun _ _ _ _ _ => (pg_name (i := 4) scLmx.nd rfl (Or.inl rfl))) (fun _ _ _ _ _ => pts_nil) (fun _ _ _ _ _ => pe_int))
      (pss_cons (ps_for PassesOwn.never rfl (piZ K rfl (by rfl) m_zip (pa_cons (pv 1) (pa_cons (pv 2) pa_nil))) (pg_tup (by rfl) (pgs_cons (pg_name (i := 4) scLmx.nd rfl (Or.inr rfl)) (pgs_cons (pg_name (i := 5) scLmx.nd rfl (Or.inl rfl)) pgs_nil)))
        (pss_one (ps_setLc (i := 3) (own := [("_law_a", 6), ("_law_b", 7)]) (g := (gTup K 2 (gCons (gName 6) (gCons (gName 7) gNil)))) (tt := tYes) (by rfl) scLmx.nd rfl rfl (sw_true rfl rfl rfl (by decide +kernel)) (piZ K rfl (by rfl) m_zip (pa_cons (pv 3) (pa_cons (pv 5) pa_nil))) (blkOk_by (own := [("_law_a", 6), ("_law_b", 7)]) (N := nLmx) (sc := (defScope sLmx)) (by decide +kernel)) (fun _ _ _ _ _ => (pg_tup (by rfl) (pgs_cons (pg_name (i := 6) scLmx.nd rfl (Or.inl rfl)) (pgs_cons (pg_name (i := 7) scLmx.nd rfl (Or.inl rfl)) pgs_nil)))) (fun _ _ _ _ _ => pts_nil) (fun _ _ _ _ _ => (pe_op op_mod (pe_op op_add (pv 6) (pe_op op_mul (pv 4) (pv 7))) (pv 0))))))
      (pss_one (ps_ret (pv 3)))), ?_⟩
    obtain ⟨m0, hm0⟩ := get_of (l := R) (i := 0) h0
    obtain ⟨r0, hr0⟩ := get_of (l := rs) (i := 0) (by have := tR.len; omega)
    have i0 := tR.row 0 r0 m0 hr0 hm0
    have w0 := wR m0 (List.mem_of_getElem? hm0)
    refine ⟨_, rfl, b, _, _, _, rfl, rfl, SqL.of tR.at_, atI_nat (j := 0) (rf_get hr0), r0, rfl, ⟨_, IL.sq i0⟩, fun D hD => ?_⟩
    refine lc_it (walk_list (K := K) (a := r0) (xs := iv m0)) (fun j H2 => Mk H D (zeros n) j H2) (Mk.start hD) (fun j H2 _ mk => mk.same.seq (IL.sq i0)) (fun j x H2 H3 hj mk y => ?_) (fun H1 mk => ?_)
    · obtain ⟨rfl, hx⟩ := y
      have hx2 := get_lt hx
      rw [List.length_map, w0.len] at hx2
      refine ⟨rfl, t_yes ?_⟩
      exact mk.step hD (Same.refl _) (by unfold zeros; rw [List.getElem?_replicate, if_pos hx2]) (by rw [zeros_len]; omega)
    have zz := mk.done (by rw [List.length_map, w0.len, zeros_len])
    have s2 := mk.same
    clear mk
    refine ⟨_, rfl, _, rfl, a, b, _, _, rfl, IL.sq (s2 _ _ ia), SqL.of (tR.same s2).at_, ?_⟩
    refine for_it (walk_zip (K := K) (a := a) (b := b) (xs := iv u) (ys := rf rs) (n := R.length) (by rw [List.length_map, List.length_map, hl, tR.len, Nat.min_self])) (fun i σ H' => ∃ c acc y4 y5 y6 y7, σ = [some (.int p), some (.ref a), some (.ref b), some (.ref c), y4, y5, y6, y7] ∧ Same H H' ∧ H c = none ∧ IL H' c acc ∧ Wf p n acc ∧ accM p acc (u.drop i) (R.drop i) = accM p (zeros n) u R)
      ⟨D, zeros n, none, none, none, none, rfl, s2, hD, zz, zeros_wf hp, rfl⟩ (fun i σ H' _ h => ?_) (fun i x σ H2 H3 hi hW y => ?_) (fun σ H' hW => ?_)
    · obtain ⟨_, _, _, _, _, _, _, sm, _⟩ := h
      exact ⟨IL.sq (sm _ _ ia), SqL.of (tR.same sm).at_⟩
    · obtain ⟨c, acc, y4, y5, y6, y7, rfl, sm, nc, ci, wi, e⟩ := hW
      obtain ⟨T, x1, x2, rfl, nT, rfl, g1, g2⟩ := y
      obtain ⟨t, ht, rfl⟩ := iv_inv g1
      obtain ⟨r, hrr, rfl⟩ := rf_inv g2
      obtain ⟨m, hm⟩ := get_of (l := R) (i := i) hi
      have sT : Same H2 (L2.upd H2 T (.tup [.int t, .ref r])) := same_new nT
      have hrow := sT _ _ (sm _ _ (tR.row i r m hrr hm))
      have ci2 := sT _ _ ci
      have tb := ra t (List.mem_of_getElem? ht)
      have wm := wR m (List.mem_of_getElem? hm)
      have sm2 := sm.trans sT
      refine ⟨T, _, rfl, .inl (.inl upd_same), rfl, _, _, rfl, _, _, rfl, rfl, ?_⟩
      generalize L2.upd H2 T (.tup [.int t, .ref r]) = H4 at *
      have hrow : IL H4 r m := hrow
      have ci2 : IL H4 c acc := ci2
      have wmix := mixR_wf (c := t) hp wi wm
      refine ⟨_, rfl, _, rfl, c, r, _, _, rfl, IL.sq ci2, IL.sq hrow, fun D hD => ?_⟩
      refine lc_it (walk_zip (K := K) (a := c) (b := r) (xs := iv acc) (ys := iv m) (n := n) (by rw [List.length_map, List.length_map, wi.len, wm.len, Nat.min_self])) (fun j H6 => Mk H4 D (mixR p t acc m) j H6) (Mk.start hD) (fun j H6 _ mk => ⟨mk.same.seq (IL.sq ci2), mk.same.seq (IL.sq hrow)⟩) (fun j x H6 H7 hj mk y => ?_) (fun H6 mk => ?_)
      · obtain ⟨T2, x1, x2, rfl, nT2, rfl, g1, g2⟩ := y
        obtain ⟨z1, hz1, rfl⟩ := iv_inv g1
        obtain ⟨z2, hz2, rfl⟩ := iv_inv g2
        refine ⟨T2, _, rfl, .inl (.inl upd_same), rfl, _, _, rfl, _, _, rfl, rfl, rfl, ?_⟩
        refine t_yes ?_
        refine ⟨_, rfl, _, rfl, _, rfl, _, _, rfl, rfl, .inl ⟨by omega, by omega⟩, _, _, rfl, rfl, _, rfl, _, _, rfl, rfl, hp, ?_⟩
        exact mk.step hD (same_new nT2) (mixR_get hz1 hz2) (by rw [wmix.len]; omega)
      · refine ⟨D, mixR p t acc m, _, _, _, _, rfl, sm2.trans mk.same, same_none sm2 hD, mk.done (by rw [wmix.len]), wmix, ?_⟩
        rw [drop_get ht, drop_get hm] at e
        exact e
    · obtain ⟨c, acc, y4, y5, y6, y7, rfl, sm, nc, ci, wi, e⟩ := hW
      rw [List.drop_eq_nil_of_le (Nat.le_refl _), accM_nil, accM_is hp wR] at e
      rw [e] at ci
      exact ⟨_, rfl, q H' c sm nc ci⟩
end

/-! ### _law_is_least -/
section
variable {P : Program} {w : World} {K : PySem.W.Frag} {mg : Str → Option Value} {base : Heap}
abbrev sLil : Stmt := topS 41
abbrev nLil : List Str := ["_law_p", "_law_told", "_law_rows", "_law_some"]
theorem scLil : FnScope nLil ["_law_p", "_law_told", "_law_rows"] (defScope sLil) := ⟨rfl, rfl, rfl, by decide +kernel, rfl, by decide +kernel, by decide +kernel⟩
def spLil : Sp := fun vs H Q _ => ∃ (p : Int) (n : Nat) (a b : Addr) (f : Row) (rs : List Addr) (r : Nat → Row) (k m : Nat), vs = [.int p, .ref a, .ref b] ∧ P5 p ∧ n ≤ 100 ∧ IL H a f ∧ Lst p n r m f ∧ Tab H b rs (runL r k) ∧ (∀ i, Wf p n (r i)) ∧ m < k ∧ k ≤ 90 ∧ ∀ H', Same H H' → Q (.bl true) H'
theorem Tab.cutTk {H : Hp} {a q : Addr} {rs : List Addr} {M : List Row} (t : Tab H a rs M) (k : Nat) (h : H q = some (.lst (rf (rs.take k)))) : Tab H q (rs.take k) (M.take k) :=
  ⟨h, by rw [List.length_take, List.length_take, t.len], fun i r m hr hm => by
    rw [List.getElem?_take] at hr hm
    by_cases c : i < k
    · rw [if_pos c] at hr hm
      exact t.row i r m hr hm
    · rw [if_neg c] at hr
      cases hr⟩
theorem rfTake (rs : List Addr) (k : Nat) : (rf rs).take k = rf (rs.take k) := (List.map_take ..).symm
theorem cut_neg1 (xs : List V) (v : V) : cutV (xs ++ [v]) (some (-1)) none = [v] := by
  unfold cutV
  have e : HT.sIx (xs ++ [v]).length 0 (some (-1)) = xs.length := by
    rw [List.length_append, List.length_singleton]
    unfold HT.sIx
    simp
    omega
  have e2 : HT.sIx (xs ++ [v]).length (xs ++ [v]).length none = (xs ++ [v]).length := rfl
  rw [e, e2, List.drop_left, List.length_append, List.length_singleton, Nat.add_sub_cancel_left]
  rfl
theorem snoc_ent {f : Row} {m : Nat} (h : f.length = m + 1) : f = f.take m ++ [ent f m] := by
  refine List.ext_getElem? fun i => ?_
  by_cases c : i < m
  · rw [List.getElem?_append_left (by rw [List.length_take]; omega), List.getElem?_take, if_pos c]
  · by_cases c2 : i = m
    · subst c2
      rw [List.getElem?_append_right (by rw [List.length_take]; omega), List.length_take, Nat.min_eq_left (by omega), Nat.sub_self, ent_some (by omega)]
      rfl
    · rw [List.getElem?_eq_none (by omega), List.getElem?_eq_none (by rw [List.length_append, List.length_take, List.length_singleton]; omega)]
set_option maxHeartbeats 4000000 in
theorem ok_Lil {f f__law_poly_like f__law_form f__law_mixture : Addr} {fd fd__law_poly_like fd__law_form fd__law_mixture : FuncData} {k : Nat} (F : Fun K "_law_is_least" "_law_is_least" sLil f fd)
    (G__law_poly_like : FnOk P w K mg base CX0 (k + 2) f__law_poly_like fd__law_poly_like ["_law_p", "_law_thing"] spPlk) (b__law_poly_like : Binds K fd__law_poly_like ["_law_p", "_law_thing"] []) (k__law_poly_like : PySem.W.keepIn K (.ref f__law_poly_like) = true) (m__law_poly_like : mg "_law_poly_like" = some (.ref f__law_poly_like))
    (G__law_form : FnOk P w K mg base CX0 (k + 2) f__law_form fd__law_form ["_law_p", "_law_rows"] spForm) (b__law_form : Binds K fd__law_form ["_law_p", "_law_rows"] []) (k__law_form : PySem.W.keepIn K (.ref f__law_form) = true) (m__law_form : mg "_law_form" = some (.ref f__law_form))
    (G__law_mixture : FnOk P w K mg base CX0 (k + 2) f__law_mixture fd__law_mixture ["_law_p", "_law_numbers", "_law_rows"] spLmx) (b__law_mixture : Binds K fd__law_mixture ["_law_p", "_law_numbers", "_law_rows"] []) (k__law_mixture : PySem.W.keepIn K (.ref f__law_mixture) = true) (m__law_mixture : mg "_law_mixture" = some (.ref f__law_mixture))
    (m_len : mg "len" = none) (m_any : mg "any" = none) : FnOk P w K mg base CX0 (k + 3) f fd ["_law_p", "_law_told", "_law_rows"] spLil := by
  refine F.ok scLil (fun vs H Q E h => ?_) (fun cdv A outer s H vs Q E hr h => ?_)
  · obtain ⟨p, n, a, b, f, rs, r, k0, m, rfl, _⟩ := h
    rfl
  · obtain ⟨p, n, a, b, f, rs, r, k0, m, rfl, h5, hn, ia, L, tR, wr, hm, hk, q⟩ := h
    refine ⟨_, pss_cons (ps_if (PW.pt (pw_or (pt_not (pt_val (pe_call G__law_poly_like hr (by rfl) m__law_poly_like k__law_poly_like b__law_poly_like .nil pass0 (pa_cons (pv 0) (pa_cons (pv 1) pa_nil))))) (pw_or (pt_cmpR (op_neD hr.units) (pe_slice (slL K) (pv 1) (po_some (pe_un un_neg pe_int)) po_none) (pe_lst (pa_cons pe_int pa_nil)) (nomark _)) (pw_or1 (pt_cmpR op_gt (pe_callB (cLen K rfl) (by rfl) m_len PySem.boot_len (pa_cons (pv 1) pa_nil)) (pe_callB (cLen K rfl) (by rfl) m_len PySem.boot_len (pa_cons (pv 2) pa_nil)) (nomark _))))))
        (pss_one (ps_ret pe_bl))
        pss_nil)
      (pss_cons (ps_set (i := 3) scLil.nd rfl (.inl rfl) (pe_slice (slL K) (pv 2) po_none (po_some (pe_callB (cLen K rfl) (by rfl) m_len PySem.boot_len (pa_cons (pv 1) pa_nil)))))
      (pss_one (ps_ret (pe_and (pe_not (pe_callB (cAnyI rfl) (by rfl) m_any (by decide +kernel) (pa_cons (pe_call G__law_mixture hr (by rfl) m__law_mixture k__law_mixture b__law_mixture .nil pass0 (pa_cons (pv 0) (pa_cons (pv 1) (pa_cons (pv 3) pa_nil)))) pa_nil))) (pe_one (pe_cmpR op_eq (pe_callB (cLen K rfl) (by rfl) m_len PySem.boot_len (pa_cons (pe_call G__law_form hr (by rfl) m__law_form k__law_form b__law_form .nil pass0 (pa_cons (pv 0) (pa_cons (pe_slice (slL K) (pv 3) po_none (po_some (pe_un un_neg pe_int))) pa_nil))) pa_nil)) (pe_op op_sub (pe_callB (cLen K rfl) (by rfl) m_len PySem.boot_len (pa_cons (pv 1) pa_nil)) pe_int) (nomark _))))))), ?_⟩
    have two := h5.two
    have le := h5.le
    have lf := L.len
    have lR := tR.len
    rw [runL_len] at lR
    refine ⟨_, rfl, _, rfl, ⟨p, a, f, rfl, ia, L.pol, by omega, fun H1 s1 => ⟨_, rfl, iteF ?_⟩⟩⟩
    have ia1 := s1 _ _ ia
    refine ⟨_, rfl, _, rfl, _, rfl, a, _, rfl, IL.sq ia1, fun v nv => ?_⟩
    have ecut : cutV (iv f) (some (-1)) none = iv [1] := by
      have e := snoc_ent lf
      rw [L.one] at e
      rw [show iv f = iv (f.take m) ++ [V.int 1] by
        show f.map V.int = (f.take m).map V.int ++ [V.int 1]
        rw [show f.map V.int = (f.take m ++ [1]).map V.int by rw [← e], List.map_append]
        rfl, cut_neg1]
      rfl
    rw [ecut]
    have s2 : Same H1 (L2.upd H1 v (.lst (iv [1]))) := same_new nv
    have iv2 : IL (L2.upd H1 v (.lst (iv [1]))) v [1] := upd_same
    generalize L2.upd H1 v (.lst (iv [1])) = H2 at *
    refine ⟨(by show 1 ≤ sizeLine; decide), fun l nl => ?_⟩
    have s3 : Same H2 (L2.upd H2 l (.lst [.int 1])) := same_new nl
    have il3 : IL (L2.upd H2 l (.lst [.int 1])) l [1] := upd_same
    generalize L2.upd H2 l (.lst [.int 1]) = H3 at *
    have s03 := (s1.trans s2).trans s3
    refine ⟨_, _, IL.dp (s3 _ _ iv2), il3.dp, dRow_shaped _, dRow_shaped _, false, by rw [dRow_eq]; rfl, iteF ?_⟩
    have ia3 := s03 _ _ ia
    have tR3 := tR.same s03
    refine ⟨_, rfl, a, _, rfl, .inl (IL.sq ia3), _, rfl, b, _, rfl, .inl (SqL.of tR3.at_), _, _, rfl, rfl, _, rfl, iteF' (decide_eq_false (by rw [List.length_map, List.length_map]; omega)) ?_⟩
    refine ⟨_, rfl, _, rfl, a, _, rfl, .inl (IL.sq ia3), _, rfl, b, _, rfl, SqL.of tR3.at_, fun w nw_ => ?_⟩
    rw [show cutV (rf rs) none (some ((iv f).length : Int)) = rf (rs.take (m + 1)) by rw [List.length_map, lf]; exact (cutTo _ (m + 1)).trans (rfTake _ _)]
    have s4 : Same H3 (L2.upd H3 w (.lst (rf (rs.take (m + 1))))) := same_new nw_
    have tw : Tab (L2.upd H3 w (.lst (rf (rs.take (m + 1))))) w (rs.take (m + 1)) (runL r (m + 1)) := by
      have t := (tR3.same s4).cutTk (m + 1) (upd_same)
      rw [runL_take (by omega)] at t
      exact t
    generalize L2.upd H3 w (.lst (rf (rs.take (m + 1)))) = H4 at *
    have ia4 := s4 _ _ ia3
    refine ⟨_, rfl, _, rfl, _, rfl, ⟨p, n, a, w, f, _, _, rfl, by omega, le, hn, ia4, L.pol.rng, tw, runL_wf wr _, by rw [runL_len, lf], by rw [runL_len]; omega, fun H5 z s5 nz iz => ?_⟩⟩
    rw [L.zero] at iz
    refine ⟨z, _, rfl, iz, _, rfl, _, rfl, iteT' (by rw [any_zeros]; rfl) ?_⟩
    have tw5 := tw.same s5
    refine ⟨_, rfl, _, rfl, _, rfl, _, rfl, w, _, rfl, SqL.of tw5.at_, fun x nx => ?_⟩
    rw [show cutV (rf (rs.take (m + 1))) none (some (-1)) = rf ((rs.take (m + 1)).take m) by
      rw [cut_last, List.dropLast_eq_take, List.length_map, List.length_take, Nat.min_eq_left (by omega), Nat.add_sub_cancel]
      exact rfTake _ _]
    have s6 : Same H5 (L2.upd H5 x (.lst (rf ((rs.take (m + 1)).take m)))) := same_new nx
    have tx : Tab (L2.upd H5 x (.lst (rf ((rs.take (m + 1)).take m)))) x ((rs.take (m + 1)).take m) (runL r m) := by
      have t := (tw5.same s6).cutTk m (upd_same)
      rw [runL_take (by omega)] at t
      exact t
    generalize L2.upd H5 x (.lst (rf ((rs.take (m + 1)).take m))) = H6 at *
    refine ⟨p, n, x, _, _, rfl, h5, hn, tx, runL_wf wr _, by rw [runL_len]; omega, fun H7 q2 qs s7 nq tq fq => ?_⟩
    have ia7 := ((s5.trans s6).trans s7) _ _ ia4
    refine ⟨q2, _, rfl, .inl (SqL.of tq.at_), _, rfl, a, _, rfl, .inl (IL.sq ia7), _, _, rfl, rfl, rfl, ?_⟩
    have ev : decide (V.int ((rf qs).length : Int) = V.int (((iv f).length : Int) - 1)) = true := decide_eq_true (by
      rw [List.length_map, List.length_map, tq.len, L.free, lf]
      congr 1
      omega)
    rw [ev]
    exact q H7 ((((s03.trans s4).trans s5).trans s6).trans s7)
end

/-! ### _law_right -/
section
variable {P : Program} {w : World} {K : PySem.W.Frag} {mg : Str → Option Value} {base : Heap}
abbrev sR16 : Stmt := topS 42
abbrev nR16 : List Str := ["_law_p", "_law_table_here", "_law_row", "_law_handed", "_law_told", "_law_found", "_law_power", "_law_powers", "_law_rows", "_law_k"]
theorem scR16 : FnScope nR16 ["_law_p", "_law_table_here", "_law_row"] (defScope sR16) := ⟨rfl, rfl, rfl, by decide +kernel, rfl, by decide +kernel, by decide +kernel⟩
def spR16 : Sp := fun vs H Q _ => ∃ (p : Int) (n : Nat) (a : Addr) (rs : List Addr) (A : List Row) (b : Addr) (v : Row), vs = [.int p, .ref a, .ref b] ∧ P5 p ∧ 0 < n ∧ n ≤ 6 ∧ Tab H a rs A ∧ Wfs p n A ∧ A.length = n ∧ IL H b v ∧ Wf p n v ∧ ∀ H', Same H H' → Q (.bl true) H'
/-- a table and a row -/
def dTR (A : List Row) (r : Row) : PyData := .list [dTab A, dRow r]
theorem dTR_lay (A : List Row) (r : Row) : (dTR A r).canLay0 = true := by
  show ((dTab A).canLay0 && ((dRow r).canLay0 && true)) = true
  rw [dRow_lay, show (dTab A).canLay0 = true from dRows_lay A]
  rfl
theorem dTR_shaped (A : List Row) (r : Row) : SeqAt.shaped (dTR A r) = true := by
  have h : (dTR A r).depth ≤ 64 := by
    show max (dTab A).depth (max (dRow r).depth 0) + 1 ≤ 64
    have := dTab_depth A
    have := dRow_depth r
    omega
  show ((dTR A r).canLay0 && decide ((dTR A r).depth ≤ 64)) = true
  rw [decide_eq_true h, dTR_lay]
  rfl
theorem dTR_eq (A : List Row) (r : Row) : PyData.eqv (dTR A r) (dTR A r) = true := SeqAt.eqv_refl _ (dTR_lay A r)
theorem tr_dp {H : Hp} {z a c : Addr} {rs : List Addr} {r : Row} {A : List Row} (hz : H z = some (.lst [.ref a, .ref c])) (ta : Tab H a rs A) (hc : IL H c r) : Dp K H (.ref z) (dTR A r) :=
  .lst (SqL.of hz) (.cons ta.dp (.cons hc.dp .nil))
/-! a heap with two places hidden -/
def w2 (P R : Addr) (H : Hp) : Hp := fun q => if q = P ∨ q = R then none else H q
theorem w2_ne {P R q : Addr} {H : Hp} (h : q ≠ P) (h2 : q ≠ R) : w2 P R H q = H q := if_neg fun z => z.elim h h2
theorem w2_inv {P R q : Addr} {H : Hp} {o : HO} (h : w2 P R H q = some o) : q ≠ P ∧ q ≠ R ∧ H q = some o := by
  unfold w2 at h
  by_cases c : q = P ∨ q = R
  · rw [if_pos c] at h; cases h
  · rw [if_neg c] at h; exact ⟨fun z => c (.inl z), fun z => c (.inr z), h⟩
theorem w2_same {P R : Addr} {H : Hp} : Same (w2 P R H) H := fun _ _ e => (w2_inv e).2.2
theorem same_w2 {P R : Addr} {H H' : Hp} (s : Same H H') : Same (w2 P R H) (w2 P R H') := fun q o e => by
  obtain ⟨e1, e2, e3⟩ := w2_inv e
  rw [w2_ne e1 e2]
  exact s q o e3
theorem w2_updP {P R : Addr} {H : Hp} {o : HO} : w2 P R (L2.upd H P o) = w2 P R H := by
  funext q
  unfold w2
  by_cases c : q = P ∨ q = R
  · rw [if_pos c, if_pos c]
  · rw [if_neg c, if_neg c, upd_ne fun z => c (.inl z)]
theorem w2_updR {P R : Addr} {H : Hp} {o : HO} : w2 P R (L2.upd H R o) = w2 P R H := by
  funext q
  unfold w2
  by_cases c : q = P ∨ q = R
  · rw [if_pos c, if_pos c]
  · rw [if_neg c, if_neg c, upd_ne fun z => c (.inr z)]
theorem w2_new {P R q : Addr} {H0 H : Hp} {u v w : HO} (hP : H0 P = some u) (hR : H0 R = some v) (h : H0 q = none) (e : H q = some w) : w2 P R H q = some w :=
  (w2_ne (fun z => by rw [z, hP] at h; cases h) (fun z => by rw [z, hR] at h; cases h)).trans e
theorem tabW2 {P R z : Addr} {H0 H : Hp} {u v : HO} {zs : List Addr} {M : List Row} (hP : H0 P = some u) (hR : H0 R = some v) (t : Tab H z zs M) (h : H0 z = none) (h2 : ∀ q ∈ zs, H0 q = none) : Tab (w2 P R H) z zs M :=
  ⟨w2_new hP hR h t.at_, t.len, fun i r m hr hm => w2_new hP hR (h2 r (List.mem_of_getElem? hr)) (t.row i r m hr hm)⟩
structure R16 (H : Hp) (p : Int) (n : Nat) (A : List Row) (v : Row) (P R : Addr) (i : Nat) (H' : Hp) (z : Addr) (zs ps : List Addr) (rs : List Addr) (r : Addr) : Prop where
  same : Same H H'
  tz : Tab (w2 P R H') z zs (powM p n A i)
  eP : H' P = some (.lst (rf ps))
  eR : H' R = some (.lst (rf (rs ++ [r])))
  aP : Al RR (w2 P R H') (rf ps) (runL (flP p n A) i)
  aR : Al RR (w2 P R H') (rf (rs ++ [r])) (runL (orb p n A v) (i + 1))
set_option maxHeartbeats 4000000 in
theorem ok_R16 {f f__law_copy f_least f_least_of f__law_plain f__law_flat f__law_product f__law_led f__law_is_least : Addr} {fd fd__law_copy fd_least fd_least_of fd__law_plain fd__law_flat fd__law_product fd__law_led fd__law_is_least : FuncData} {k : Nat} (F : Fun K "_law_right" "_law_right" sR16 f fd)
    (G__law_copy : FnOk P w K mg base CX0 (k + 5) f__law_copy fd__law_copy ["_law_table_here"] spCpy) (b__law_copy : Binds K fd__law_copy ["_law_table_here"] []) (k__law_copy : PySem.W.keepIn K (.ref f__law_copy) = true) (m__law_copy : mg "_law_copy" = some (.ref f__law_copy))
    (G_least : FnOk P w K mg base CX0 (k + 5) f_least fd_least ["p", "table"] spLea) (b_least : Binds K fd_least ["p", "table"] []) (k_least : PySem.W.keepIn K (.ref f_least) = true) (m_least : mg "least" = some (.ref f_least))
    (G_least_of : FnOk P w K mg base CX0 (k + 5) f_least_of fd_least_of ["p", "table", "row"] spLeo) (b_least_of : Binds K fd_least_of ["p", "table", "row"] []) (k_least_of : PySem.W.keepIn K (.ref f_least_of) = true) (m_least_of : mg "least_of" = some (.ref f_least_of))
    (G__law_plain : FnOk P w K mg base CX0 (k + 5) f__law_plain fd__law_plain ["_law_size"] spPln) (b__law_plain : Binds K fd__law_plain ["_law_size"] []) (k__law_plain : PySem.W.keepIn K (.ref f__law_plain) = true) (m__law_plain : mg "_law_plain" = some (.ref f__law_plain))
    (G__law_flat : FnOk P w K mg base CX0 (k + 5) f__law_flat fd__law_flat ["_law_table_here"] spLfl) (b__law_flat : Binds K fd__law_flat ["_law_table_here"] []) (k__law_flat : PySem.W.keepIn K (.ref f__law_flat) = true) (m__law_flat : mg "_law_flat" = some (.ref f__law_flat))
    (G__law_product : FnOk P w K mg base CX0 (k + 5) f__law_product fd__law_product ["_law_p", "_law_one", "_law_other"] spPrd) (b__law_product : Binds K fd__law_product ["_law_p", "_law_one", "_law_other"] []) (k__law_product : PySem.W.keepIn K (.ref f__law_product) = true) (m__law_product : mg "_law_product" = some (.ref f__law_product))
    (G__law_led : FnOk P w K mg base CX0 (k + 5) f__law_led fd__law_led ["_law_p", "_law_row", "_law_table_here"] spLed) (b__law_led : Binds K fd__law_led ["_law_p", "_law_row", "_law_table_here"] []) (k__law_led : PySem.W.keepIn K (.ref f__law_led) = true) (m__law_led : mg "_law_led" = some (.ref f__law_led))
    (G__law_is_least : FnOk P w K mg base CX0 (k + 5) f__law_is_least fd__law_is_least ["_law_p", "_law_told", "_law_rows"] spLil) (b__law_is_least : Binds K fd__law_is_least ["_law_p", "_law_told", "_law_rows"] []) (k__law_is_least : PySem.W.keepIn K (.ref f__law_is_least) = true) (m__law_is_least : mg "_law_is_least" = some (.ref f__law_is_least))
    (m_list : mg "list" = none) (m_len : mg "len" = none) (m_range : mg "range" = none) : FnOk P w K mg base CX0 (k + 6) f fd ["_law_p", "_law_table_here", "_law_row"] spR16 := by
  refine F.ok scR16 (fun vs H Q E h => ?_) (fun cdv A outer s H vs Q E hr h => ?_)
  · obtain ⟨p, n, a, rs, A, b, v, rfl, _⟩ := h
    rfl
  · obtain ⟨p, n, a, rs, A, b, v, rfl, h5, n0, hn, tA, wA, lA, ib, wv, q⟩ := h
    refine ⟨_, pss_cons (ps_set (i := 3) scR16.nd rfl (.inl rfl) (pe_lst (pa_cons (pe_call G__law_copy hr (by rfl) m__law_copy k__law_copy b__law_copy .nil pass0 (pa_cons (pv 1) pa_nil)) (pa_cons (pe_callTy (cLst K rfl) (by rfl) m_list (by decide +kernel) (pa_cons (pv 2) pa_nil)) pa_nil))))
      (pss_cons (ps_set (i := 4) scR16.nd rfl (.inl rfl) (pe_call G_least hr (by rfl) m_least k_least b_least .nil pass0 (pa_cons (pv 0) (pa_cons (pe_ix (ixL K) (pv 3) pe_int (fun _ _ => rfl)) pa_nil))))
      (pss_cons (ps_set (i := 5) scR16.nd rfl (.inl rfl) (pe_call G_least_of hr (by rfl) m_least_of k_least_of b_least_of .nil pass0 (pa_cons (pv 0) (pa_cons (pe_ix (ixL K) (pv 3) pe_int (fun _ _ => rfl)) (pa_cons (pe_ix (ixL K) (pv 3) pe_int (fun _ _ => rfl)) pa_nil)))))
      (pss_cons (ps_if (pt_cmpR (op_neD hr.units) (pv 3) (pe_lst (pa_cons (pv 1) (pa_cons (pv 2) pa_nil))) (nomark _))
        (pss_one (ps_ret pe_bl))
        pss_nil)
      (pss_cons (ps_set (i := 6) scR16.nd rfl (.inl rfl) (pe_call G__law_plain hr (by rfl) m__law_plain k__law_plain b__law_plain .nil pass0 (pa_cons (pe_callB (cLen K rfl) (by rfl) m_len PySem.boot_len (pa_cons (pv 1) pa_nil)) pa_nil)))
      (pss_cons (ps_set (i := 7) scR16.nd rfl (.inl rfl) (pe_lst pa_nil))
      (pss_cons (ps_set (i := 8) scR16.nd rfl (.inl rfl) (pe_lst (pa_cons (pe_callTy (cLst K rfl) (by rfl) m_list (by decide +kernel) (pa_cons (pv 2) pa_nil)) pa_nil)))
      (pss_cons (ps_for PassesOwn.never rfl (pi_range1 rfl m_range (pa_cons (pe_op op_add (pe_callB (cLen K rfl) (by rfl) m_len PySem.boot_len (pa_cons (pv 1) pa_nil)) pe_int) pa_nil)) (pg_name (i := 9) scR16.nd rfl (Or.inl rfl))
        (pss_cons (ps_expr (pe_bm PySem.F.plainAttrs_list PySem.F.slot_list_append PySem.F.type_list_append mt_append (pv 7) (pa_cons (pe_call G__law_flat hr (by rfl) m__law_flat k__law_flat b__law_flat .nil pass0 (pa_cons (pv 6) pa_nil)) pa_nil)))
        (pss_cons (ps_set (i := 6) scR16.nd rfl (.inl rfl) (pe_call G__law_product hr (by rfl) m__law_product k__law_product b__law_product .nil pass0 (pa_cons (pv 0) (pa_cons (pv 6) (pa_cons (pv 1) pa_nil)))))
        (pss_one (ps_expr (pe_bm PySem.F.plainAttrs_list PySem.F.slot_list_append PySem.F.type_list_append mt_append (pv 8) (pa_cons (pe_call G__law_led hr (by rfl) m__law_led k__law_led b__law_led .nil pass0 (pa_cons (pv 0) (pa_cons (pe_ix (ixL K) (pv 8) (pe_un un_neg pe_int) (fun _ _ => rfl)) (pa_cons (pv 1) pa_nil)))) pa_nil)))))))
      (pss_cons (ps_if (PW.pt (pw_or (pt_not (pt_val (pe_call G__law_is_least hr (by rfl) m__law_is_least k__law_is_least b__law_is_least .nil pass0 (pa_cons (pv 0) (pa_cons (pv 4) (pa_cons (pv 7) pa_nil)))))) (pw_or1 (pt_not (pt_val (pe_call G__law_is_least hr (by rfl) m__law_is_least k__law_is_least b__law_is_least .nil pass0 (pa_cons (pv 0) (pa_cons (pv 5) (pa_cons (pv 8) pa_nil)))))))))
        (pss_one (ps_ret pe_bl))
        pss_nil)
      (pss_cons (ps_expr (pe_bm PySem.F.plainAttrs_list PySem.F.slot_list_append PySem.F.type_list_append mt_append (pv 4) (pa_cons pe_int pa_nil)))
      (pss_cons (ps_expr (pe_bm PySem.F.plainAttrs_list PySem.F.slot_list_append PySem.F.type_list_append mt_append (pv 5) (pa_cons pe_int pa_nil)))
      (pss_one (ps_ret (pe_cmpR (op_eqD hr.units) (pv 3) (pe_lst (pa_cons (pv 1) (pa_cons (pv 2) pa_nil))) (nomark _)))))))))))))), ?_⟩
    have two := h5.two
    have le := h5.le
    have nn : n * n ≤ 36 := Nat.mul_le_mul hn hn
    have lrs := tA.len
    refine ⟨_, rfl, ⟨a, rs, A, rfl, tA, by omega, fun H1 c cs s1 nc tc fc => ?_⟩⟩
    refine ⟨_, rfl, b, _, rfl, .inl (IL.sq (s1 _ _ ib)), fun u nu => ?_⟩
    have s2 : Same H1 (L2.upd H1 u (.lst (iv v))) := same_new nu
    have iu : IL (L2.upd H1 u (.lst (iv v))) u v := upd_same
    generalize L2.upd H1 u (.lst (iv v)) = H2 at *
    refine ⟨(by show 2 ≤ sizeLine; decide), fun hd nhd => ?_⟩
    have s3 : Same H2 (L2.upd H2 hd (.lst [.ref c, .ref u])) := same_new nhd
    have ehd : (L2.upd H2 hd (.lst [.ref c, .ref u])) hd = some (.lst [.ref c, .ref u]) := upd_same
    generalize L2.upd H2 hd (.lst [.ref c, .ref u]) = H3 at *
    have s03 := (s1.trans s2).trans s3
    have tc3 := tc.same (s2.trans s3)
    have iu3 := s3 _ _ iu
    refine ⟨_, rfl, _, rfl, hd, _, _, _, rfl, rfl, SqL.of ehd, atI_nat (j := 0) rfl, ⟨p, n, c, cs, A, rfl, h5, n0, hn, tc3, wA, lA, fun H4 g1 m1 f1 s4 ng1 ig1 L1 hm1 => ?_⟩⟩
    have ehd4 := s4 _ _ ehd
    refine ⟨_, rfl, _, rfl, hd, _, _, _, rfl, rfl, SqL.of ehd4, atI_nat (j := 0) rfl, _, rfl, hd, _, _, _, rfl, rfl, SqL.of ehd4, atI_nat (j := 1) rfl, ⟨p, n, c, cs, A, u, v, rfl, h5, n0, hn, tc3.same s4, wA, lA, s4 _ _ iu3, wv, fun H5 g2 m2 f2 s5 ng2 ig2 L2' hm2 => ?_⟩⟩
    have s35 := s4.trans s5
    have s05 := s03.trans s35
    refine ⟨_, rfl, _, rfl, _, rfl, (by show 2 ≤ sizeLine; decide), fun e2 ne2 => ?_⟩
    have s6 : Same H5 (L2.upd H5 e2 (.lst [.ref a, .ref b])) := same_new ne2
    have ee2 : (L2.upd H5 e2 (.lst [.ref a, .ref b])) e2 = some (.lst [.ref a, .ref b]) := upd_same
    generalize L2.upd H5 e2 (.lst [.ref a, .ref b]) = H6 at *
    have s36 := s35.trans s6
    have s06 := s03.trans s36
    refine ⟨_, _, tr_dp (s36 _ _ ehd) (tc3.same s36) (s36 _ _ iu3), tr_dp ee2 (tA.same s06) (s06 _ _ ib), dTR_shaped _ _, dTR_shaped _ _, false, by rw [dTR_eq]; rfl, iteF ?_⟩
    refine ⟨_, rfl, a, _, rfl, .inl (SqL.of (tA.same s06).at_), ?_⟩
    rw [List.length_map, lrs, lA]
    refine ⟨n, rfl, by omega, fun H7 z zs s7 nz tz fz => ?_⟩
    have tz : Tab H7 z zs (powM p n A 0) := by
      rw [← plain_pow two, plain_id]
      exact tz
    refine ⟨(by show 0 ≤ sizeLine; decide), fun P nP => ?_⟩
    have s8 : Same H7 (L2.upd H7 P (.lst [])) := same_new nP
    have eP8 : (L2.upd H7 P (.lst [])) P = some (.lst (rf [])) := upd_same
    generalize L2.upd H7 P (.lst []) = H8 at *
    have s08 := (s06.trans s7).trans s8
    refine ⟨_, rfl, b, _, rfl, .inl (IL.sq (s08 _ _ ib)), fun w nw_ => ?_⟩
    have s9 : Same H8 (L2.upd H8 w (.lst (iv v))) := same_new nw_
    have iw : IL (L2.upd H8 w (.lst (iv v))) w v := upd_same
    generalize L2.upd H8 w (.lst (iv v)) = H9 at *
    refine ⟨(by show 1 ≤ sizeLine; decide), fun R nR => ?_⟩
    have sA : Same H9 (L2.upd H9 R (.lst [.ref w])) := same_new nR
    have eRA : (L2.upd H9 R (.lst [.ref w])) R = some (.lst (rf ([] ++ [w]))) := upd_same
    have hRn : ∀ {q o}, H9 q = some o → q ≠ R := fun {q o} e zz => by rw [zz, nR] at e; cases e
    have hPn : ∀ {q o}, H7 q = some o → q ≠ P := fun {q o} e zz => by rw [zz, nP] at e; cases e
    have wP : w ≠ P := fun e => by
      rw [e, eP8] at nw_
      cases nw_
    have I0 : R16 H7 p n A v P R 0 (L2.upd H9 R (.lst [.ref w])) z zs [] [] w := by
      have s7A := (s8.trans s9).trans sA
      refine ⟨s7A, ⟨?_, tz.len, fun i r m hr hm => ?_⟩, sA _ _ (s9 _ _ eP8), eRA, .nil, .cons ⟨w, rfl, ?_⟩ .nil⟩
      · rw [w2_ne (hPn tz.at_) (hRn ((s8.trans s9) _ _ tz.at_))]
        exact s7A _ _ tz.at_
      · have e := tz.row i r m hr hm
        exact (show w2 P R _ r = _ from w2_ne (hPn e) (hRn ((s8.trans s9) _ _ e))).trans (s7A _ _ e)
      · exact (show w2 P R _ w = _ from w2_ne wP (hRn iw)).trans (sA _ _ iw)
    have nR7 := same_none (s8.trans s9) nR
    generalize L2.upd H9 R (.lst [.ref w]) = HA at *
    have s07 := s06.trans s7
    refine ⟨_, rfl, a, _, rfl, .inl (SqL.of (tA.same (s07.trans I0.same)).at_), _, _, rfl, rfl, ((n + 1 : Nat) : Int), by rw [List.length_map, lrs, lA]; rfl, by omega, by omega, ?_⟩
    refine for_range (lo := 0) (n := ((n + 1 : Nat) : Int).toNat) (fun i σ H' => ∃ z zs ps rs' r y9, σ = [some (.int p), some (.ref a), some (.ref b), some (.ref hd), some (.ref g1), some (.ref g2), some (.ref z), some (.ref P), some (.ref R), y9] ∧ R16 H7 p n A v P R i H' z zs ps rs' r)
      ⟨z, zs, [], [], w, none, rfl, I0⟩ (fun i σ H' hi hW => ?_) (fun σ H' hW => ?_)
    · rw [Int.toNat_natCast] at hi
      obtain ⟨z, zs, ps, rs', r, y9, rfl, I⟩ := hW
      have lP := I.aP.len
      have lR := I.aR.len
      rw [List.length_map, runL_len] at lP
      rw [List.length_map, List.length_append, List.length_singleton, runL_len] at lR
      have tz' := I.tz.same w2_same
      refine ⟨_, rfl, .inl ⟨rfl, _, SqL.of I.eP⟩, _, rfl, ⟨n, z, zs, _, rfl, tz', fun r hr => (pow_wf (by omega) r hr).len, by rw [pow_len]; omega, by omega, fun H2 u2 s2' nu2 iu2 => ?_⟩⟩
      refine ⟨P, _, _, rfl, rfl, s2' _ _ I.eP, by rw [List.length_map]; exact small1000 (by omega), ?_⟩
      have iu2w : IL (w2 P R H2) u2 (flP p n A i) := w2_new I.eP I.eR nu2 iu2
      have eB := w2_updP (P := P) (R := R) (H := H2) (o := .lst (rf ps ++ [.ref u2]))
      have sB : Same H7 (L2.upd H2 P (.lst (rf ps ++ [.ref u2]))) := same_upd nP (I.same.trans s2')
      have ePB : (L2.upd H2 P (.lst (rf ps ++ [.ref u2]))) P = some (.lst (rf (ps ++ [u2]))) := by
        rw [upd_same]
        show some (HO.lst (ps.map V.ref ++ [V.ref u2])) = some (.lst ((ps ++ [u2]).map V.ref))
        rw [List.map_append]
        rfl
      have RP : R ≠ P := fun e => by
        have h1 := I.eP
        rw [← e, I.eR] at h1
        have h2 : rf (rs' ++ [r]) = rf ps := HO.lst.inj (Option.some.inj h1)
        have h3 := congrArg List.length h2
        rw [List.length_map, List.length_map, List.length_append, List.length_singleton] at h3
        omega
      have eRB : (L2.upd H2 P (.lst (rf ps ++ [.ref u2]))) R = some (.lst (rf (rs' ++ [r]))) := (upd_ne RP).trans (s2' _ _ I.eR)
      have tzB : Tab (w2 P R (L2.upd H2 P (.lst (rf ps ++ [.ref u2])))) z zs (powM p n A i) := by rw [eB]; exact I.tz.same (same_w2 s2')
      have aPB : Al RR (w2 P R (L2.upd H2 P (.lst (rf ps ++ [.ref u2])))) (rf (ps ++ [u2])) (runL (flP p n A) (i + 1)) := by
        rw [eB, runL_succ, show rf (ps ++ [u2]) = rf ps ++ [V.ref u2] by
          show (ps ++ [u2]).map V.ref = ps.map V.ref ++ [V.ref u2]
          rw [List.map_append]; rfl]
        exact (I.aP.same RR.mono (same_w2 s2')).app (.cons ⟨u2, rfl, iu2w⟩ .nil)
      have aRB : Al RR (w2 P R (L2.upd H2 P (.lst (rf ps ++ [.ref u2])))) (rf (rs' ++ [r])) (runL (orb p n A v) (i + 1)) := by rw [eB]; exact I.aR.same RR.mono (same_w2 s2')
      generalize L2.upd H2 P (.lst (rf ps ++ [.ref u2])) = HB at *
      refine ⟨_, rfl, _, rfl, _, rfl, ⟨p, n, n, z, a, zs, _, rs, A, rfl, by omega, le, tzB.same w2_same, pow_wf (by omega), tA.same (s07.trans sB), wA, by omega, by omega, by omega, by rw [pow_len]; omega, by omega, fun HC z2 zs2 sC nz2 tz2 fz2 => ?_⟩⟩
      rw [pow_step two lA] at tz2
      have tzC := tabW2 ePB eRB tz2 nz2 fz2
      have eRC := sC _ _ eRB
      have al : atI (rf (rs' ++ [r])) (-1) = some (.ref r) := by
        show atI ((rs' ++ [r]).map V.ref) (-1) = _
        rw [List.map_append]
        exact atI_last _ _
      have irC : IL HC r (orb p n A v i) := by
        obtain ⟨r', e', h'⟩ := (aRB.same RR.mono (same_w2 sC)).get (i := i) (v := .ref r) (x := orb p n A v i) (by
          show ((rs' ++ [r]).map V.ref)[i]? = _
          rw [List.map_append, List.getElem?_append_right (by rw [List.length_map]; omega), List.length_map, show i - rs'.length = 0 by omega]
          rfl) (runL_get (by omega))
        cases e'
        exact w2_same _ _ h'
      refine ⟨_, rfl, .inl ⟨rfl, _, SqL.of eRC⟩, _, rfl, _, rfl, _, rfl, R, _, _, _, rfl, rfl, SqL.of eRC, al, _, rfl, ⟨p, n, r, a, _, rs, A, rfl, by omega, le, irC, (orb_wf (by omega) wv i).rng, tA.same (s07.trans (sB.trans sC)), wA, by rw [(orb_wf (by omega) wv i).len, lA], by omega, by omega, by omega, fun HD u3 sD nu3 iu3 => ?_⟩⟩
      refine ⟨R, _, _, rfl, rfl, sD _ _ eRC, by rw [List.length_map, List.length_append, List.length_singleton]; exact small1000 (by omega), ?_⟩
      have ePC := sC _ _ ePB
      have iu3w : IL (w2 P R HD) u3 (orb p n A v (i + 1)) := w2_new ePC eRC nu3 iu3
      have eE := w2_updR (P := P) (R := R) (H := HD) (o := .lst (rf (rs' ++ [r]) ++ [.ref u3]))
      have sCD := sC.trans sD
      refine ⟨z2, zs2, ps ++ [u2], rs' ++ [r], u3, _, rfl, same_upd nR7 (sB.trans sCD), by rw [eE]; exact tzC.same (same_w2 sD), (upd_ne RP.symm).trans (sCD _ _ ePB), ?_, by rw [eE]; exact aPB.same RR.mono (same_w2 sCD), ?_⟩
      · rw [upd_same]
        show some (HO.lst ((rs' ++ [r]).map V.ref ++ [V.ref u3])) = some (.lst ((rs' ++ [r] ++ [u3]).map V.ref))
        generalize rs' ++ [r] = G
        rw [List.map_append]
        rfl
      · rw [eE, runL_succ (m := i + 1), show rf (rs' ++ [r] ++ [u3]) = rf (rs' ++ [r]) ++ [V.ref u3] by
          show (rs' ++ [r] ++ [u3]).map V.ref = (rs' ++ [r]).map V.ref ++ [V.ref u3]
          generalize rs' ++ [r] = G
          rw [List.map_append]; rfl]
        exact (aRB.same RR.mono (same_w2 sCD)).app (.cons ⟨u3, rfl, iu3w⟩ .nil)
    · obtain ⟨z, zs, ps, rs', r, y9, rfl, I⟩ := hW
      rw [Int.toNat_natCast] at I
      have s07' := s07.trans I.same
      obtain ⟨ps2, tP⟩ := Al.tab I.eP (I.aP.same RR.mono w2_same)
      obtain ⟨rs2, tR⟩ := Al.tab I.eR (I.aR.same RR.mono w2_same)
      have s5A := (s6.trans s7).trans I.same
      have ig1A := s5A _ _ (s5 _ _ ig1)
      have ig2A := s5A _ _ ig2
      refine ⟨_, rfl, _, rfl, _, rfl, ⟨p, n * n, g1, P, f1, ps2, flP p n A, n + 1, m1, rfl, h5, by omega, ig1A, L1, tP, flP_wf (by omega), by omega, by omega, fun HB sB => ⟨_, rfl, iteF ?_⟩⟩⟩
      refine ⟨_, rfl, _, rfl, _, rfl, ⟨p, n, g2, R, f2, rs2, orb p n A v, n + 2, m2, rfl, h5, by omega, sB _ _ ig2A, L2', tR.same sB, orb_wf (by omega) wv, by omega, by omega, fun HC sC => ⟨_, rfl, iteF ?_⟩⟩⟩
      have s5C := (s5A.trans sB).trans sC
      have s3C := s35.trans s5C
      have s0C := s03.trans s3C
      have ig1C := (sB.trans sC) _ _ ig1A
      have ig2C := sC _ _ (sB _ _ ig2A)
      have n31 : H3 g1 = none := ng1
      have n32 : H3 g2 = none := same_none s4 ng2
      refine ⟨_, rfl, .inl ⟨rfl, _, IL.sq ig1C⟩, g1, _, _, rfl, rfl, ig1C, by rw [List.length_map, L1.len]; exact small1000 (by omega), ?_⟩
      have sD : Same H3 (L2.upd HC g1 (.lst (iv f1 ++ [.int 0]))) := same_upd n31 s3C
      obtain ⟨xs, ex, lx⟩ : ∃ xs, (L2.upd HC g1 (.lst (iv f1 ++ [.int 0]))) g2 = some (.lst xs) ∧ xs.length ≤ 100 := by
        by_cases c : g2 = g1
        · exact ⟨_, by rw [c, upd_same], by rw [List.length_append, List.length_map, List.length_singleton, L1.len]; omega⟩
        · exact ⟨_, by rw [upd_ne c]; exact ig2C, by rw [List.length_map, L2'.len]; omega⟩
      generalize L2.upd HC g1 (.lst (iv f1 ++ [.int 0])) = HD at *
      refine ⟨_, rfl, .inl ⟨rfl, _, SqL.of ex⟩, g2, _, _, rfl, rfl, ex, small1000 (by omega), ?_⟩
      have sE : Same H3 (L2.upd HD g2 (.lst (xs ++ [.int 0]))) := same_upd n32 sD
      generalize L2.upd HD g2 (.lst (xs ++ [.int 0])) = HE at *
      refine ⟨_, rfl, _, rfl, _, rfl, (by show 2 ≤ sizeLine; decide), fun e3 ne3 => ?_⟩
      have sF : Same HE (L2.upd HE e3 (.lst [.ref a, .ref b])) := same_new ne3
      have ee3 : (L2.upd HE e3 (.lst [.ref a, .ref b])) e3 = some (.lst [.ref a, .ref b]) := upd_same
      generalize L2.upd HE e3 (.lst [.ref a, .ref b]) = HF at *
      have s3F := sE.trans sF
      have s0F := s03.trans s3F
      refine ⟨_, _, tr_dp (s3F _ _ ehd) (tc3.same s3F) (s3F _ _ iu3), tr_dp ee3 (tA.same s0F) (s0F _ _ ib), dTR_shaped _ _, dTR_shaped _ _, ?_⟩
      rw [dTR_eq]
      exact q HF s0F
end

/-! ### _law_shaped -/
section
variable {P : Program} {w : World} {K : PySem.W.Frag} {mg : Str → Option Value} {base : Heap}
abbrev sShp : Stmt := topS 38
abbrev nShp : List Str := ["_law_p", "_law_size", "_law_bag_here", "_law_table_here", "_law_way", "_law_cut", "_law_rest", "_law_i", "_law_j"]
theorem scShp : FnScope nShp ["_law_p", "_law_size", "_law_bag_here"] (defScope sShp) := ⟨rfl, rfl, rfl, by decide +kernel, rfl, by decide +kernel, by decide +kernel⟩
def spShp : Sp := fun vs H Q _ => ∃ (p : Int) (n : Nat) (b : Addr) (c : Nat), vs = [.int p, .int (n : Int), .ref b] ∧ P5 p ∧ 1 ≤ n ∧ n ≤ 6 ∧ Bg H b c ∧ c < 2 ^ 19 ∧ ∀ H' z zs A, Off b H H' → H z = none → Tab H' z zs A → Wfs p n A → A.length = n → (∀ r ∈ zs, H r = none) → Bg H' b (c + 300) → Q (.ref z) H'
theorem gpush {H2 H3 H4 : Hp} {D2 : Addr} {g : Row} {j : Nat} {p y : Int} (s : Same H2 H3) (e : H3 D2 = some (.lst (iv g))) (lg : g.length = j) (rg : ∀ x ∈ g, 0 ≤ x ∧ x < p) (hD2 : H2 D2 = none) (s4 : Same H3 H4) (hy : 0 ≤ y ∧ y < p) (hj : j ≤ 900) :
    ∃ acc, H4 D2 = some (.lst acc) ∧ acc.length < sizeLine ∧ ∃ g, Same H2 (L2.upd H4 D2 (.lst (acc ++ [.int y]))) ∧ (L2.upd H4 D2 (.lst (acc ++ [.int y]))) D2 = some (.lst (iv g)) ∧ g.length = j + 1 ∧ ∀ x ∈ g, 0 ≤ x ∧ x < p := by
  refine ⟨_, s4 _ _ e, by rw [List.length_map, lg]; exact small1000 (by omega), g ++ [y], same_upd hD2 (s.trans s4), ?_, by rw [List.length_append, lg]; rfl, fun x hx => ?_⟩
  · rw [upd_same]
    show some (HO.lst (g.map V.int ++ [V.int y])) = some (.lst ((g ++ [y]).map V.int))
    rw [List.map_append]
    rfl
  · rcases List.mem_append.mp hx with h | h
    · exact rg x h
    · rw [List.mem_singleton.mp h]
      exact hy
theorem once {x p : Int} (b : Bool) (h : 0 ≤ x ∧ x < p) : 0 ≤ x * (if b = true then 1 else 0) ∧ x * (if b = true then 1 else 0) < p := by
  cases b
  · show 0 ≤ x * 0 ∧ x * 0 < p
    omega
  · show 0 ≤ x * 1 ∧ x * 1 < p
    omega
set_option maxHeartbeats 4000000 in
theorem ok_Shp {f f__law_table f__law_take : Addr} {fd fd__law_table fd__law_take : FuncData} {k : Nat} (F : Fun K "_law_shaped" "_law_shaped" sShp f fd)
    (G__law_table : FnOk P w K mg base CX0 (k + 2) f__law_table fd__law_table ["_law_p", "_law_high", "_law_wide", "_law_bag_here"] spTbl) (b__law_table : Binds K fd__law_table ["_law_p", "_law_high", "_law_wide", "_law_bag_here"] []) (k__law_table : PySem.W.keepIn K (.ref f__law_table) = true) (m__law_table : mg "_law_table" = some (.ref f__law_table))
    (G__law_take : FnOk P w K mg base CX0 (k + 2) f__law_take fd__law_take ["_law_bag_here", "_law_many"] spTake) (b__law_take : Binds K fd__law_take ["_law_bag_here", "_law_many"] []) (k__law_take : PySem.W.keepIn K (.ref f__law_take) = true) (m__law_take : mg "_law_take" = some (.ref f__law_take))
    (m_range : mg "range" = none) (m_int : mg "int" = none) : FnOk P w K mg base CX0 (k + 3) f fd ["_law_p", "_law_size", "_law_bag_here"] spShp := by
  refine F.ok scShp (fun vs H Q E h => ?_) (fun cdv A outer s H vs Q E hr h => ?_)
  · obtain ⟨p, n, b, c, rfl, _⟩ := h
    rfl
  · obtain ⟨p, n, b, c, rfl, h5, n1, hn, bag, hc, q⟩ := h
    refine ⟨_, pss_cons (ps_set (i := 3) scShp.nd rfl (.inr rfl) (pe_call G__law_table hr (by rfl) m__law_table k__law_table b__law_table .nil pass0 (pa_cons (pv 0) (pa_cons (pv 1) (pa_cons (pv 1) (pa_cons (pv 2) pa_nil))))))
      (pss_cons (ps_set (i := 4) scShp.nd rfl (.inl rfl) (pe_call G__law_take hr (by rfl) m__law_take k__law_take b__law_take .nil pass0 (pa_cons (pv 2) (pa_cons pe_int pa_nil))))
      (pss_cons (ps_set (i := 5) scShp.nd rfl (.inr rfl) (pe_call G__law_take hr (by rfl) m__law_take k__law_take b__law_take .nil pass0 (pa_cons (pv 2) (pa_cons (pv 1) pa_nil))))
      (pss_cons (ps_set (i := 6) scShp.nd rfl (.inr rfl) (pe_call G__law_take hr (by rfl) m__law_take k__law_take b__law_take .nil pass0 (pa_cons (pv 2) (pa_cons (pv 0) pa_nil))))
      (pss_cons (ps_if (pt_cmpR op_eq (pv 4) pe_int (nomark _))
        (pss_one (ps_ret (pe_lc (own := [("_law_i", 7)]) (g := (gName 7)) (tt := tYes) (by rfl) scShp.nd (pi_range1 rfl m_range (pa_cons (pv 1) pa_nil)) (blkOk_by (own := [("_law_i", 7)]) (N := nShp) (sc := (defScope sShp)) (by decide +kernel)) (fun _ _ _ _ _ => (pg_name (i := 7) scShp.nd rfl (Or.inr rfl))) (fun _ _ _ _ _ => pts_nil) (fun _ _ _ _ _ => (pe_lc (own := [("_law_j", 8)]) (g := (gName 8)) (tt := tYes) (by rfl) scShp.nd (pi_range1 rfl m_range (pa_cons (pv 1) pa_nil)) (blkOk_by (own := [("_law_j", 8)]) (N := nShp) (sc := (relS (lcScope (stX (stN (stB (stN (defBody sShp) 4)) 0))) (defScope sShp))) (by decide +kernel)) (fun _ _ _ _ _ => (pg_name (i := 8) scShp.nd rfl (Or.inl rfl))) (fun _ _ _ _ _ => pts_nil) (fun _ _ _ _ _ => (pe_op op_mul (pv 6) (pe_callTy (cInt) (by rfl) m_int (by decide +kernel) (pa_cons (pe_cmpR op_eq (pv 7) (pv 8) (nomark _)) pa_nil)))))))))
        pss_nil)
      (pss_cons (ps_if (pt_cmpR op_eq (pv 4) pe_int (nomark _))
        (pss_one (ps_ret (pe_lc (own := [("_law_i", 7)]) (g := (gName 7)) (tt := tYes) (by rfl) scShp.nd (pi_range1 rfl m_range (pa_cons (pv 1) pa_nil)) (blkOk_by (own := [("_law_i", 7)]) (N := nShp) (sc := (defScope sShp)) (by decide +kernel)) (fun _ _ _ _ _ => (pg_name (i := 7) scShp.nd rfl (Or.inr rfl))) (fun _ _ _ _ _ => pts_nil) (fun _ _ _ _ _ => (pe_lc (own := [("_law_j", 8)]) (g := (gName 8)) (tt := tYes) (by rfl) scShp.nd (pi_range1 rfl m_range (pa_cons (pv 1) pa_nil)) (blkOk_by (own := [("_law_j", 8)]) (N := nShp) (sc := (relS (lcScope (stX (stN (stB (stN (defBody sShp) 5)) 0))) (defScope sShp))) (by decide +kernel)) (fun _ _ _ _ _ => (pg_name (i := 8) scShp.nd rfl (Or.inl rfl))) (fun _ _ _ _ _ => pts_nil) (fun _ _ _ _ _ => (pe_op op_mul (pe_ix (ixL K) (pe_ix (ixL K) (pv 3) (pv 7) (fun _ _ => rfl)) (pv 8) (fun _ _ => rfl)) (pe_callTy (cInt) (by rfl) m_int (by decide +kernel) (pa_cons (pe_cmpR op_eq (pe_cmpR op_lt (pv 7) (pv 5) (nomark _)) (pe_cmpR op_lt (pv 8) (pv 5) (nomark _)) (nomark _)) pa_nil)))))))))
        pss_nil)
      (pss_cons (ps_if (pt_cmpR op_eq (pv 4) pe_int (nomark _))
        (pss_one (ps_ret (pe_op op_cat (pe_lc (own := [("_law_i", 7)]) (g := (gName 7)) (tt := tYes) (by rfl) scShp.nd (pi_range1 rfl m_range (pa_cons (pe_op op_sub (pv 1) pe_int) pa_nil)) (blkOk_by (own := [("_law_i", 7)]) (N := nShp) (sc := (defScope sShp)) (by decide +kernel)) (fun _ _ _ _ _ => (pg_name (i := 7) scShp.nd rfl (Or.inr rfl))) (fun _ _ _ _ _ => pts_nil) (fun _ _ _ _ _ => (pe_lc (own := [("_law_j", 8)]) (g := (gName 8)) (tt := tYes) (by rfl) scShp.nd (pi_range1 rfl m_range (pa_cons (pv 1) pa_nil)) (blkOk_by (own := [("_law_j", 8)]) (N := nShp) (sc := (relS (lcScope (eL (stX (stN (stB (stN (defBody sShp) 6)) 0)))) (defScope sShp))) (by decide +kernel)) (fun _ _ _ _ _ => (pg_name (i := 8) scShp.nd rfl (Or.inl rfl))) (fun _ _ _ _ _ => pts_nil) (fun _ _ _ _ _ => (pe_callTy (cInt) (by rfl) m_int (by decide +kernel) (pa_cons (pe_cmpR op_eq (pv 8) (pe_op op_add (pv 7) pe_int) (nomark _)) pa_nil)))))) (pe_lst (pa_cons (pe_ix (ixL K) (pv 3) (pe_op op_sub (pv 1) pe_int) (fun _ _ => rfl)) pa_nil)))))
        pss_nil)
      (pss_cons (ps_if (pt_cmpR op_eq (pv 4) pe_int (nomark _))
        (pss_one (ps_ret (pe_lc (own := [("_law_i", 7)]) (g := (gName 7)) (tt := tYes) (by rfl) scShp.nd (pi_range1 rfl m_range (pa_cons (pv 1) pa_nil)) (blkOk_by (own := [("_law_i", 7)]) (N := nShp) (sc := (defScope sShp)) (by decide +kernel)) (fun _ _ _ _ _ => (pg_name (i := 7) scShp.nd rfl (Or.inr rfl))) (fun _ _ _ _ _ => pts_nil) (fun _ _ _ _ _ => (pe_lc (own := [("_law_j", 8)]) (g := (gName 8)) (tt := tYes) (by rfl) scShp.nd (pi_range1 rfl m_range (pa_cons (pv 1) pa_nil)) (blkOk_by (own := [("_law_j", 8)]) (N := nShp) (sc := (relS (lcScope (stX (stN (stB (stN (defBody sShp) 7)) 0))) (defScope sShp))) (by decide +kernel)) (fun _ _ _ _ _ => (pg_name (i := 8) scShp.nd rfl (Or.inl rfl))) (fun _ _ _ _ _ => pts_nil) (fun _ _ _ _ _ => (pe_op op_mul (pe_ix (ixL K) (pe_ix (ixL K) (pv 3) (pv 7) (fun _ _ => rfl)) (pv 8) (fun _ _ => rfl)) (pe_callTy (cInt) (by rfl) m_int (by decide +kernel) (pa_cons (pe_cmpR op_lt (pv 7) (pv 8) (nomark _)) pa_nil)))))))))
        pss_nil)
      (pss_one (ps_ret (pv 3)))))))))), ?_⟩
    have two := h5.two
    have le := h5.le
    have bb0 : n * (2 * n + 5) ≤ 6 * 17 := Nat.mul_le_mul hn (by omega)
    refine ⟨_, rfl, _, rfl, _, rfl, _, rfl, ⟨p, n, n, b, c, rfl, by omega, le, by omega, by omega, bag, by omega, fun t ts M H1 wM lM off1 nt tT fT bag1 => ?_⟩⟩
    refine ⟨_, rfl, ⟨b, 5, _, rfl, by decide, by decide, bag1, by omega, fun way H2 a1 b1 off2 _ bag2 => ?_⟩⟩
    refine ⟨_, rfl, _, rfl, ⟨b, n, _, rfl, by omega, by omega, bag2, by omega, fun cut H3 a2 b2 off3 _ bag3 => ?_⟩⟩
    refine ⟨_, rfl, _, rfl, ⟨b, p, _, rfl, by omega, by omega, bag3, by omega, fun rest H4 a3 b3 off4 _ bag4 => ?_⟩⟩
    have off04 := ((off1.trans off2).trans off3).trans off4
    have o14 := (off2.trans off3).trans off4
    have tT := tT.off o14 (bag.ne nt) fun r hr => bag.ne (fT r hr)
    refine ⟨_, rfl, rfl, _, rfl, ?_⟩
    by_cases c1 : way = 1
    · refine iteT' (decide_eq_true (congrArg V.int c1)) ?_
      refine ⟨_, rfl, (n : Int), rfl, by omega, by omega, fun D hD => ?_⟩
      refine lc_range (lo := 0) (n := _) (fun i H2 => ∃ G us, Mw H4 D G H2 us ∧ G.length = i ∧ Wfs p n G) ⟨[], [], Mw.start hD, rfl, fun x hx => by simp at hx⟩ (fun i H2 hi hW => ?_) (fun H2 hW => ?_)
      · rw [Int.toNat_natCast] at hi
        obtain ⟨G, us, mw, lG, wG⟩ := hW
        rw [Int.zero_add]
        refine ⟨rfl, t_yes ?_⟩
        refine ⟨_, rfl, (n : Int), rfl, by omega, by omega, fun D2 hD2 => ?_⟩
        refine lc_range (lo := 0) (n := _) (fun j H3 => ∃ g, Same H2 H3 ∧ H3 D2 = some (.lst (iv g)) ∧ g.length = j ∧ ∀ x ∈ g, 0 ≤ x ∧ x < p) ⟨[], same_new hD2, upd_same, rfl, fun x hx => by simp at hx⟩ (fun j H3 hj hg => ?_) (fun H3 hg => ?_)
        · rw [Int.toNat_natCast] at hj
          obtain ⟨g, s3, e3, lg, rg⟩ := hg
          rw [Int.zero_add]
          refine ⟨rfl, t_yes ?_⟩
          refine ⟨_, rfl, _, rfl, _, rfl, rfl, _, rfl, ?_⟩
          generalize decide (V.int (i : Int) = V.int (j : Int)) = bb
          refine ⟨_, _, rfl, rfl, .inl ⟨by omega, by omega⟩, ?_⟩
          exact gpush s3 e3 lg rg hD2 (Same.refl _) (once bb ⟨a3, b3⟩) (by omega)
        · obtain ⟨g, s3, e3, lg, rg⟩ := hg
          rw [Int.toNat_natCast] at lg
          obtain ⟨acc, a1, a2, a3⟩ := mw.push hD s3 hD2 e3 (by omega)
          refine ⟨acc, a1, a2, G ++ [g], us ++ [D2], a3, by rw [List.length_append, lG]; rfl, fun x hx => ?_⟩
          rcases List.mem_append.mp hx with h | h
          · exact wG x h
          · rw [List.mem_singleton.mp h]
            exact ⟨lg, rg⟩
      · obtain ⟨G, us, mw, lG, wG⟩ := hW
        rw [Int.toNat_natCast] at lG
        exact q H2 D us G (off04.trans (Off.of mw.same)) (off04.free hD (bag4.ne hD)) mw.tab wG lG (fun r hr => off04.free (mw.fresh r hr) (bag4.ne (mw.fresh r hr))) ((bag4.same' mw.same).mono (by omega))
    refine iteF' (decide_eq_false fun z => c1 (V.int.inj z)) ?_
    refine ⟨_, rfl, rfl, _, rfl, ?_⟩
    by_cases c2 : way = 2
    · refine iteT' (decide_eq_true (congrArg V.int c2)) ?_
      refine ⟨_, rfl, (n : Int), rfl, by omega, by omega, fun D hD => ?_⟩
      refine lc_range (lo := 0) (n := _) (fun i H2 => ∃ G us, Mw H4 D G H2 us ∧ G.length = i ∧ Wfs p n G) ⟨[], [], Mw.start hD, rfl, fun x hx => by simp at hx⟩ (fun i H2 hi hW => ?_) (fun H2 hW => ?_)
      · rw [Int.toNat_natCast] at hi
        obtain ⟨G, us, mw, lG, wG⟩ := hW
        rw [Int.zero_add]
        refine ⟨rfl, t_yes ?_⟩
        refine ⟨_, rfl, (n : Int), rfl, by omega, by omega, fun D2 hD2 => ?_⟩
        refine lc_range (lo := 0) (n := _) (fun j H3 => ∃ g, Same H2 H3 ∧ H3 D2 = some (.lst (iv g)) ∧ g.length = j ∧ ∀ x ∈ g, 0 ≤ x ∧ x < p) ⟨[], same_new hD2, upd_same, rfl, fun x hx => by simp at hx⟩ (fun j H3 hj hg => ?_) (fun H3 hg => ?_)
        · rw [Int.toNat_natCast] at hj
          obtain ⟨g, s3, e3, lg, rg⟩ := hg
          rw [Int.zero_add]
          refine ⟨rfl, t_yes ?_⟩
          have tT3 := (tT.same mw.same).same s3
          obtain ⟨m, hm⟩ := get_of (l := M) (i := i) (by omega)
          obtain ⟨r, hr'⟩ := get_of (l := ts) (i := i) (by have := tT.len; omega)
          have ir := tT3.row i r m hr' hm
          have wm := wM m (List.mem_of_getElem? hm)
          have em := wm.ent hj
          refine ⟨_, rfl, _, rfl, t, _, _, _, rfl, rfl, SqL.of tT3.at_, atI_nat (rf_get hr'), _, rfl, r, _, _, _, rfl, rfl, IL.sq ir, atI_nat (iv_ent (by rw [wm.len]; exact hj)), _, rfl, _, rfl, _, _, rfl, rfl, _, rfl, _, rfl, _, _, rfl, rfl, rfl, _, rfl, ?_⟩
          generalize decide (V.bl (decide ((i : Int) < (cut : Int))) = V.bl (decide ((j : Int) < (cut : Int)))) = bb
          refine ⟨_, _, rfl, rfl, .inl ⟨by omega, by omega⟩, ?_⟩
          exact gpush s3 e3 lg rg hD2 (Same.refl _) (once bb em) (by omega)
        · obtain ⟨g, s3, e3, lg, rg⟩ := hg
          rw [Int.toNat_natCast] at lg
          obtain ⟨acc, a1, a2, a3⟩ := mw.push hD s3 hD2 e3 (by omega)
          refine ⟨acc, a1, a2, G ++ [g], us ++ [D2], a3, by rw [List.length_append, lG]; rfl, fun x hx => ?_⟩
          rcases List.mem_append.mp hx with h | h
          · exact wG x h
          · rw [List.mem_singleton.mp h]
            exact ⟨lg, rg⟩
      · obtain ⟨G, us, mw, lG, wG⟩ := hW
        rw [Int.toNat_natCast] at lG
        exact q H2 D us G (off04.trans (Off.of mw.same)) (off04.free hD (bag4.ne hD)) mw.tab wG lG (fun r hr => off04.free (mw.fresh r hr) (bag4.ne (mw.fresh r hr))) ((bag4.same' mw.same).mono (by omega))
    refine iteF' (decide_eq_false fun z => c2 (V.int.inj z)) ?_
    refine ⟨_, rfl, rfl, _, rfl, ?_⟩
    by_cases c3 : way = 3
    · refine iteT' (decide_eq_true (congrArg V.int c3)) ?_
      refine ⟨_, rfl, _, _, rfl, rfl, ((n - 1 : Nat) : Int), (by show [V.int ((n : Int) - 1)] = [V.int ((n - 1 : Nat) : Int)]; rw [show (n : Int) - 1 = ((n - 1 : Nat) : Int) by omega]), by omega, by omega, fun D hD => ?_⟩
      refine lc_range (lo := 0) (n := _) (fun i H2 => ∃ G us, Mw H4 D G H2 us ∧ G.length = i ∧ Wfs p n G) ⟨[], [], Mw.start hD, rfl, fun x hx => by simp at hx⟩ (fun i H2 hi hW => ?_) (fun H2 hW => ?_)
      · rw [Int.toNat_natCast] at hi
        obtain ⟨G, us, mw, lG, wG⟩ := hW
        rw [Int.zero_add]
        refine ⟨rfl, t_yes ?_⟩
        refine ⟨_, rfl, (n : Int), rfl, by omega, by omega, fun D2 hD2 => ?_⟩
        refine lc_range (lo := 0) (n := _) (fun j H3 => ∃ g, Same H2 H3 ∧ H3 D2 = some (.lst (iv g)) ∧ g.length = j ∧ ∀ x ∈ g, 0 ≤ x ∧ x < p) ⟨[], same_new hD2, upd_same, rfl, fun x hx => by simp at hx⟩ (fun j H3 hj hg => ?_) (fun H3 hg => ?_)
        · rw [Int.toNat_natCast] at hj
          obtain ⟨g, s3, e3, lg, rg⟩ := hg
          rw [Int.zero_add]
          refine ⟨rfl, t_yes ?_⟩
          refine ⟨_, rfl, _, rfl, _, _, rfl, rfl, rfl, _, rfl, ?_⟩
          generalize decide (V.int (j : Int) = V.int ((i : Int) + 1)) = bb
          refine gpush s3 e3 lg rg hD2 (Same.refl _) ?_ (by omega)
          cases bb
          · show (0 : Int) ≤ 0 ∧ (0 : Int) < p
            omega
          · show (0 : Int) ≤ 1 ∧ (1 : Int) < p
            omega
        · obtain ⟨g, s3, e3, lg, rg⟩ := hg
          rw [Int.toNat_natCast] at lg
          obtain ⟨acc, a1, a2, a3⟩ := mw.push hD s3 hD2 e3 (by omega)
          refine ⟨acc, a1, a2, G ++ [g], us ++ [D2], a3, by rw [List.length_append, lG]; rfl, fun x hx => ?_⟩
          rcases List.mem_append.mp hx with h | h
          · exact wG x h
          · rw [List.mem_singleton.mp h]
            exact ⟨lg, rg⟩
      · obtain ⟨G, us, mw, lG, wG⟩ := hW
        rw [Int.toNat_natCast] at lG
        have tT2 := tT.same mw.same
        obtain ⟨m, hm⟩ := get_of (l := M) (i := n - 1) (by omega)
        obtain ⟨r, hr'⟩ := get_of (l := ts) (i := n - 1) (by have := tT.len; omega)
        refine ⟨_, rfl, _, rfl, _, _, rfl, rfl, t, _, _, _, rfl, rfl, SqL.of tT2.at_, at_of (j := n - 1) (by omega) (rf_get hr'), (by show 1 ≤ sizeLine; decide), fun l nl => ?_⟩
        have s5 : Same H2 (L2.upd H2 l (.lst [.ref r])) := same_new nl
        have tl : Tab (L2.upd H2 l (.lst [.ref r])) l [r] [m] := Tab.one upd_same (s5 _ _ (tT2.row _ r m hr' hm))
        generalize L2.upd H2 l (.lst [.ref r]) = H5 at *
        have tG := mw.tab.same s5
        have lus := mw.tab.len
        refine ⟨D, l, _, _, rfl, rfl, tG.at_, tl.at_, by rw [List.length_map]; exact Nat.le_of_lt (small1000 (by show us.length + 1 ≤ 1000; omega)), fun d nd => ?_⟩
        have s6 : Same H5 (L2.upd H5 d (.lst (rf us ++ rf [r]))) := same_new nd
        have td := (tG.same s6).cat (tl.same s6) upd_same
        generalize L2.upd H5 d (.lst (rf us ++ rf [r])) = H6 at *
        have s4 := (mw.same.trans s5).trans s6
        have nd4 := same_none (mw.same.trans s5) nd
        refine q H6 d (us ++ [r]) (G ++ [m]) (off04.trans (Off.of s4)) (off04.free nd4 (bag4.ne nd4)) td (fun x hx => ?_) (by rw [List.length_append, List.length_singleton]; omega) (fun x hx => ?_) ((bag4.same' s4).mono (by omega))
        · rcases List.mem_append.mp hx with h | h
          · exact wG x h
          · rw [List.mem_singleton.mp h]
            exact wM m (List.mem_of_getElem? hm)
        · rcases List.mem_append.mp hx with h | h
          · exact off04.free (mw.fresh x h) (bag4.ne (mw.fresh x h))
          · rw [List.mem_singleton.mp h]
            exact fT r (List.mem_of_getElem? hr')
    refine iteF' (decide_eq_false fun z => c3 (V.int.inj z)) ?_
    refine ⟨_, rfl, rfl, _, rfl, ?_⟩
    by_cases c4 : way = 4
    · refine iteT' (decide_eq_true (congrArg V.int c4)) ?_
      refine ⟨_, rfl, (n : Int), rfl, by omega, by omega, fun D hD => ?_⟩
      refine lc_range (lo := 0) (n := _) (fun i H2 => ∃ G us, Mw H4 D G H2 us ∧ G.length = i ∧ Wfs p n G) ⟨[], [], Mw.start hD, rfl, fun x hx => by simp at hx⟩ (fun i H2 hi hW => ?_) (fun H2 hW => ?_)
      · rw [Int.toNat_natCast] at hi
        obtain ⟨G, us, mw, lG, wG⟩ := hW
        rw [Int.zero_add]
        refine ⟨rfl, t_yes ?_⟩
        refine ⟨_, rfl, (n : Int), rfl, by omega, by omega, fun D2 hD2 => ?_⟩
        refine lc_range (lo := 0) (n := _) (fun j H3 => ∃ g, Same H2 H3 ∧ H3 D2 = some (.lst (iv g)) ∧ g.length = j ∧ ∀ x ∈ g, 0 ≤ x ∧ x < p) ⟨[], same_new hD2, upd_same, rfl, fun x hx => by simp at hx⟩ (fun j H3 hj hg => ?_) (fun H3 hg => ?_)
        · rw [Int.toNat_natCast] at hj
          obtain ⟨g, s3, e3, lg, rg⟩ := hg
          rw [Int.zero_add]
          refine ⟨rfl, t_yes ?_⟩
          have tT3 := (tT.same mw.same).same s3
          obtain ⟨m, hm⟩ := get_of (l := M) (i := i) (by omega)
          obtain ⟨r, hr'⟩ := get_of (l := ts) (i := i) (by have := tT.len; omega)
          have ir := tT3.row i r m hr' hm
          have wm := wM m (List.mem_of_getElem? hm)
          have em := wm.ent hj
          refine ⟨_, rfl, _, rfl, t, _, _, _, rfl, rfl, SqL.of tT3.at_, atI_nat (rf_get hr'), _, rfl, r, _, _, _, rfl, rfl, IL.sq ir, atI_nat (iv_ent (by rw [wm.len]; exact hj)), _, rfl, _, rfl, _, _, rfl, rfl, _, rfl, ?_⟩
          generalize decide ((i : Int) < (j : Int)) = bb
          refine ⟨_, _, rfl, rfl, .inl ⟨by omega, by omega⟩, ?_⟩
          exact gpush s3 e3 lg rg hD2 (Same.refl _) (once bb em) (by omega)
        · obtain ⟨g, s3, e3, lg, rg⟩ := hg
          rw [Int.toNat_natCast] at lg
          obtain ⟨acc, a1, a2, a3⟩ := mw.push hD s3 hD2 e3 (by omega)
          refine ⟨acc, a1, a2, G ++ [g], us ++ [D2], a3, by rw [List.length_append, lG]; rfl, fun x hx => ?_⟩
          rcases List.mem_append.mp hx with h | h
          · exact wG x h
          · rw [List.mem_singleton.mp h]
            exact ⟨lg, rg⟩
      · obtain ⟨G, us, mw, lG, wG⟩ := hW
        rw [Int.toNat_natCast] at lG
        exact q H2 D us G (off04.trans (Off.of mw.same)) (off04.free hD (bag4.ne hD)) mw.tab wG lG (fun r hr => off04.free (mw.fresh r hr) (bag4.ne (mw.fresh r hr))) ((bag4.same' mw.same).mono (by omega))
    refine iteF' (decide_eq_false fun z => c4 (V.int.inj z)) ?_
    exact ⟨_, rfl, q H4 t ts M off04 nt tT wM lM fT (bag4.mono (by omega))⟩
end

/-! ### law -/
section
variable {P : Program} {w : World} {K : PySem.W.Frag} {mg : Str → Option Value} {base : Heap}
abbrev sLaw : Stmt := topS 43
abbrev nLaw : List Str := ["_law_script", "_law_k", "_law_bag_here", "_law_p", "_law_size", "_law_table_here", "_law_row"]
theorem scLaw : FnScope nLaw ["_law_script"] (defScope sLaw) := ⟨rfl, rfl, rfl, by decide +kernel, rfl, by decide +kernel, by decide +kernel⟩
def spLaw (K : PySem.W.Frag) : Sp := fun vs H Q _ => ∃ (a : Addr) (ns : List Int), vs = [.ref a] ∧ SqL K H a (iv ns) ∧ ns.length ≤ 63 ∧ ∀ H', Q (.bl true) H'
set_option maxHeartbeats 4000000 in
theorem ok_Law {f f__law_bag f__law_prime f__law_take f__law_shaped f__law_sparse f__law_right : Addr} {fd fd__law_bag fd__law_prime fd__law_take fd__law_shaped fd__law_sparse fd__law_right : FuncData} {k : Nat} (F : Fun K "law" "law" sLaw f fd)
    (G__law_bag : FnOk P w K mg base CX0 (k + 6) f__law_bag fd__law_bag ["_law_script", "_law_at"] (spBag K)) (b__law_bag : Binds K fd__law_bag ["_law_script", "_law_at"] []) (k__law_bag : PySem.W.keepIn K (.ref f__law_bag) = true) (m__law_bag : mg "_law_bag" = some (.ref f__law_bag))
    (G__law_prime : FnOk P w K mg base CX0 (k + 6) f__law_prime fd__law_prime ["_law_bag_here"] spPrime) (b__law_prime : Binds K fd__law_prime ["_law_bag_here"] []) (k__law_prime : PySem.W.keepIn K (.ref f__law_prime) = true) (m__law_prime : mg "_law_prime" = some (.ref f__law_prime))
    (G__law_take : FnOk P w K mg base CX0 (k + 6) f__law_take fd__law_take ["_law_bag_here", "_law_many"] spTake) (b__law_take : Binds K fd__law_take ["_law_bag_here", "_law_many"] []) (k__law_take : PySem.W.keepIn K (.ref f__law_take) = true) (m__law_take : mg "_law_take" = some (.ref f__law_take))
    (G__law_shaped : FnOk P w K mg base CX0 (k + 6) f__law_shaped fd__law_shaped ["_law_p", "_law_size", "_law_bag_here"] spShp) (b__law_shaped : Binds K fd__law_shaped ["_law_p", "_law_size", "_law_bag_here"] []) (k__law_shaped : PySem.W.keepIn K (.ref f__law_shaped) = true) (m__law_shaped : mg "_law_shaped" = some (.ref f__law_shaped))
    (G__law_sparse : FnOk P w K mg base CX0 (k + 6) f__law_sparse fd__law_sparse ["_law_p", "_law_length", "_law_bag_here"] spSparse) (b__law_sparse : Binds K fd__law_sparse ["_law_p", "_law_length", "_law_bag_here"] []) (k__law_sparse : PySem.W.keepIn K (.ref f__law_sparse) = true) (m__law_sparse : mg "_law_sparse" = some (.ref f__law_sparse))
    (G__law_right : FnOk P w K mg base CX0 (k + 6) f__law_right fd__law_right ["_law_p", "_law_table_here", "_law_row"] spR16) (b__law_right : Binds K fd__law_right ["_law_p", "_law_table_here", "_law_row"] []) (k__law_right : PySem.W.keepIn K (.ref f__law_right) = true) (m__law_right : mg "_law_right" = some (.ref f__law_right))
    (m_range : mg "range" = none) (m_max : mg "max" = none) (m_min : mg "min" = none) (m_len : mg "len" = none) : FnOk P w K mg base CX0 (k + 7) f fd ["_law_script"] (spLaw K) := by
  refine F.ok scLaw (fun vs H Q E h => ?_) (fun cdv A outer s H vs Q E hr h => ?_)
  · obtain ⟨a, ns, rfl, _⟩ := h
    rfl
  · obtain ⟨a, ns, rfl, hS, h63, q⟩ := h
    refine ⟨_, pss_cons (ps_for PassesOwn.never rfl (pi_range1 rfl m_range (pa_cons (pe_callB (call_max2 rfl) (by rfl) m_max (by decide +kernel) (pa_cons pe_int (pa_cons (pe_callB (call_min2 rfl) (by rfl) m_min (by decide +kernel) (pa_cons (pe_callB (cLen K rfl) (by rfl) m_len PySem.boot_len (pa_cons (pv 0) pa_nil)) (pa_cons pe_int pa_nil))) pa_nil))) pa_nil)) (pg_name (i := 1) scLaw.nd rfl (Or.inl rfl))
        (pss_cons (ps_set (i := 2) scLaw.nd rfl (.inl rfl) (pe_call G__law_bag hr (by rfl) m__law_bag k__law_bag b__law_bag .nil pass0 (pa_cons (pv 0) (pa_cons (pv 1) pa_nil))))
        (pss_cons (ps_set (i := 3) scLaw.nd rfl (.inl rfl) (pe_call G__law_prime hr (by rfl) m__law_prime k__law_prime b__law_prime .nil pass0 (pa_cons (pv 2) pa_nil)))
        (pss_cons (ps_set (i := 4) scLaw.nd rfl (.inl rfl) (pe_op op_addK pe_int (pe_call G__law_take hr (by rfl) m__law_take k__law_take b__law_take .nil pass0 (pa_cons (pv 2) (pa_cons pe_int pa_nil)))))
        (pss_cons (ps_set (i := 5) scLaw.nd rfl (.inl rfl) (pe_call G__law_shaped hr (by rfl) m__law_shaped k__law_shaped b__law_shaped .nil pass0 (pa_cons (pv 3) (pa_cons (pv 4) (pa_cons (pv 2) pa_nil)))))
        (pss_one (ps_for PassesOwn.never rfl (piL K rfl (pe_lst (pa_cons (pe_call G__law_sparse hr (by rfl) m__law_sparse k__law_sparse b__law_sparse .nil pass0 (pa_cons (pv 3) (pa_cons (pv 4) (pa_cons (pv 2) pa_nil)))) (pa_cons (pe_op op_rep (pe_lst (pa_cons pe_int pa_nil)) (pv 4)) (pa_cons (pe_op op_cat (pe_lst (pa_cons pe_int pa_nil)) (pe_op op_rep (pe_lst (pa_cons pe_int pa_nil)) (pe_op op_sub (pv 4) pe_int))) pa_nil))))) (pg_name (i := 6) scLaw.nd rfl (Or.inl rfl))
          (pss_one (ps_if (pt_not (pt_val (pe_call G__law_right hr (by rfl) m__law_right k__law_right b__law_right .nil pass0 (pa_cons (pv 3) (pa_cons (pv 5) (pa_cons (pv 6) pa_nil))))))
            (pss_one (ps_ret pe_bl))
            pss_nil)))))))))
      (pss_one (ps_ret pe_bl)), ?_⟩
    refine ⟨_, rfl, a, _, rfl, .inl hS, _, _, rfl, _, _, rfl, ?_⟩
    have bb := top_bound ((iv ns).length : Int) (by omega) 6 (by decide)
    generalize (if (if (6 : Int) < ((iv ns).length : Int) then 6 else ((iv ns).length : Int)) > 3 then (if (6 : Int) < ((iv ns).length : Int) then 6 else ((iv ns).length : Int)) else 3) = top at *
    refine ⟨top, rfl, by omega, by omega, ?_⟩
    refine for_range (lo := 0) (n := top.toNat) (fun i σ H' => ∃ y1 y2 y3 y4 y5 y6, σ = [some (.ref a), y1, y2, y3, y4, y5, y6] ∧ Same H H') ⟨none, none, none, none, none, none, rfl, Same.refl H⟩ (fun i σ H0 hi hW => ?_) (fun σ H' hW => ?_)
    · obtain ⟨y1, y2, y3, y4, y5, y6, rfl, s0⟩ := hW
      rw [Int.zero_add]
      refine ⟨_, rfl, _, rfl, ⟨a, ns, i, rfl, s0.seq hS, by omega, fun b H1 nb s1 bag1 => ?_⟩⟩
      refine ⟨_, rfl, ⟨b, _, rfl, bag1, by decide, fun p H2 h5 off2 bag2 => ?_⟩⟩
      have two := h5.two
      have le := h5.le
      refine ⟨_, rfl, ⟨b, 6, _, rfl, by decide, by decide, bag2, by omega, fun d H3 a1 b1 off3 _ bag3 => ?_⟩⟩
      obtain ⟨D, rfl⟩ := Int.eq_ofNat_of_zero_le a1
      obtain ⟨n, en⟩ : ∃ n : Nat, n = 1 + D := ⟨_, rfl⟩
      refine ⟨_, _, (n : Int), rfl, rfl, by omega, ?_⟩
      refine ⟨_, rfl, _, rfl, _, rfl, ⟨p, n, b, _, rfl, h5, by omega, by omega, bag3, by omega, fun H4 t ts A off4 nt tT wA lA fT bag4 => ?_⟩⟩
      have off14 := (off2.trans off3).trans off4
      refine ⟨_, rfl, _, rfl, _, rfl, ⟨p, n, b, _, rfl, by omega, le, by omega, bag4, by omega, fun o row H5 wo_ off5 no io bag5 => ?_⟩⟩
      have s45 : ∀ q u, q ≠ b → H4 q = some u → H5 q = some u := fun q u h e => off5 q u h e
      have tT5 := tT.off off5 (bag3.ne nt) fun r hr => bag3.ne (fT r hr)
      have s15 : Same H0 H5 := fun x u e => off5 x u (ne_of_none e nb) (off14 x u (ne_of_none e nb) (s1 x u e))
      refine ⟨(by show 1 ≤ sizeLine; decide), fun l1 nl1 => ?_⟩
      have c1 : Same H5 (L2.upd H5 l1 (.lst [.int 0])) := same_new nl1
      have e1 : (L2.upd H5 l1 (.lst [.int 0])) l1 = some (.lst [.int 0]) := upd_same
      generalize L2.upd H5 l1 (.lst [.int 0]) = H6 at *
      refine ⟨_, rfl, l1, (n : Int), _, rfl, rfl, e1, by omega, by omega, ?_, fun zz nzz => ?_⟩
      · rw [Int.toNat_natCast, List.length_singleton, Nat.one_mul]
        exact Nat.le_of_lt (small1000 (by omega))
      rw [rep_zeros]
      have c2 : Same H6 (L2.upd H6 zz (.lst (iv (zeros n)))) := same_new nzz
      have iz : IL (L2.upd H6 zz (.lst (iv (zeros n)))) zz (zeros n) := upd_same
      generalize L2.upd H6 zz (.lst (iv (zeros n))) = H7 at *
      refine ⟨(by show 1 ≤ sizeLine; decide), fun l2 nl2 => ?_⟩
      have c6 : Same H7 (L2.upd H7 l2 (.lst [.int 1])) := same_new nl2
      have e6 : (L2.upd H7 l2 (.lst [.int 1])) l2 = some (.lst (iv [1])) := upd_same
      generalize L2.upd H7 l2 (.lst [.int 1]) = H8 at *
      refine ⟨(by show 1 ≤ sizeLine; decide), fun l3 nl3 => ?_⟩
      have c7 : Same H8 (L2.upd H8 l3 (.lst [.int 0])) := same_new nl3
      have e7 : (L2.upd H8 l3 (.lst [.int 0])) l3 = some (.lst [.int 0]) := upd_same
      generalize L2.upd H8 l3 (.lst [.int 0]) = H9 at *
      have en1 : ((n : Int) - 1).toNat = n - 1 := by omega
      have ez : (List.replicate ((n : Int) - 1).toNat [V.int 0]).flatten = iv (zeros (n - 1)) := by
        have := rep_zeros (n - 1)
        rw [Int.toNat_natCast] at this
        rw [en1]
        exact this
      refine ⟨_, rfl, _, _, rfl, rfl, ?_⟩
      refine ⟨l3, ((n : Int) - 1), _, rfl, rfl, e7, by omega, by omega, ?_, fun z8 nz8 => ?_⟩
      · rw [en1, List.length_singleton, Nat.one_mul]
        exact Nat.le_of_lt (small1000 (by omega))
      rw [ez]
      have c8 : Same H9 (L2.upd H9 z8 (.lst (iv (zeros (n - 1))))) := same_new nz8
      have i8 : IL (L2.upd H9 z8 (.lst (iv (zeros (n - 1))))) z8 (zeros (n - 1)) := upd_same
      generalize L2.upd H9 z8 (.lst (iv (zeros (n - 1)))) = HA at *
      refine ⟨l2, z8, _, _, rfl, rfl, c8 _ _ (c7 _ _ e6), i8, by rw [List.length_map, List.length_map, zeros_len]; exact Nat.le_of_lt (small1000 (by show 1 + (n - 1) ≤ 1000; omega)), fun v nv => ?_⟩
      have c9 : Same HA (L2.upd HA v (.lst (iv [1] ++ iv (zeros (n - 1))))) := same_new nv
      have i9 : IL (L2.upd HA v (.lst (iv [1] ++ iv (zeros (n - 1))))) v ([1] ++ zeros (n - 1)) := cat_il
      generalize L2.upd HA v (.lst (iv [1] ++ iv (zeros (n - 1)))) = HB at *
      refine ⟨(by show 3 ≤ sizeLine; decide), fun L nL => ?_⟩
      have cL : Same HB (L2.upd HB L (.lst [.ref o, .ref zz, .ref v])) := same_new nL
      have eL : (L2.upd HB L (.lst [.ref o, .ref zz, .ref v])) L = some (.lst [.ref o, .ref zz, .ref v]) := upd_same
      generalize L2.upd HB L (.lst [.ref o, .ref zz, .ref v]) = HC at *
      have s7C := ((((c6.trans c7).trans c8).trans c9).trans cL)
      have s5C := (c1.trans c2).trans s7C
      have wv : Wf p n ([1] ++ zeros (n - 1)) := ⟨by rw [List.length_append, zeros_len, List.length_singleton]; omega, fun x hx => by
        rcases List.mem_append.mp hx with h | h
        · rw [List.mem_singleton.mp h]
          omega
        · exact (zeros_wf (p := p) (n := n - 1) (by omega)).rng x h⟩
      have al : ∀ x ∈ [V.ref o, V.ref zz, V.ref v], ∃ r row, x = .ref r ∧ IL HC r row ∧ Wf p n row := fun x hx => by
        simp only [List.mem_cons, List.not_mem_nil, or_false] at hx
        rcases hx with h | h | h
        · exact ⟨o, row, h, s5C _ _ io, wo_⟩
        · exact ⟨zz, _, h, s7C _ _ iz, zeros_wf (by omega)⟩
        · exact ⟨v, _, h, cL _ _ i9, wv⟩
      have tTC := tT5.same s5C
      refine ⟨L, rfl, ⟨_, SqL.of eL⟩, ?_⟩
      refine for_list (K := K) (a := L) (xs := [V.ref o, V.ref zz, V.ref v]) (fun j σ H' => ∃ y6, σ = [some (.ref a), some (.int (i : Int)), some (.ref b), some (.int p), some (.int (n : Int)), some (.ref t), y6] ∧ Same HC H') ⟨y6, rfl, Same.refl _⟩ (fun j σ H' _ hW => ?_) (fun j x σ H' hx hW => ?_) (fun σ H' hW => ?_)
      · obtain ⟨_, _, s⟩ := hW
        exact SqL.of (s _ _ eL)
      · obtain ⟨y6, rfl, s⟩ := hW
        obtain ⟨r, rw_, rfl, ir, wr⟩ := al _ (List.mem_of_getElem? hx)
        refine ⟨_, rfl, _, rfl, _, rfl, ⟨p, n, t, ts, A, r, rw_, rfl, h5, by omega, by omega, tTC.same s, wA, lA, s _ _ ir, wr, fun H2 s2 => ⟨_, rfl, iteF ?_⟩⟩⟩
        exact ⟨_, rfl, s.trans s2⟩
      · obtain ⟨y6, rfl, s⟩ := hW
        exact ⟨_, _, _, _, _, _, rfl, (s0.trans s15).trans (s5C.trans s)⟩
    · exact q H'
end

set_option maxHeartbeats 8000000 in
theorem all_mk {l : PySem.W.OpenLaw} {w : World} {K : PySem.W.Frag} {h : Heap} {mg : Str → Option Value} {fa f0 f1 f2 f3 f4 f5 f6 f7 f8 f9 f10 f11 f12 f13 f14 f15 f16 f17 f18 f19 f20 f21 f22 f23 f24 f25 f26 f27 f28 f29 f30 f31 f32 f33 f34 f35 f36 f37 f38 : Addr} (X : K.In h) (G : h.Ns mainGlobals mg) (hfa : mg "law" = some (.ref fa))
    {od0 an0 od1 an1 od2 an2 od3 an3 od4 an4 od5 an5 od6 an6 od7 an7 od8 an8 od9 an9 od10 an10 od11 an11 od12 an12 od13 an13 od14 an14 od15 an15 od16 an16 od17 an17 od18 an18 od19 an19 od20 an20 od21 an21 od22 an22 od23 an23 od24 an24 od25 an25 od26 an26 od27 an27 od28 an28 od29 an29 od30 an30 od31 an31 od32 an32 od33 an33 od34 an34 od35 an35 od36 an36 od37 an37 od38 an38 : Option Addr} {sl0 sl1 sl2 sl3 sl4 sl5 sl6 sl7 sl8 sl9 sl10 sl11 sl12 sl13 sl14 sl15 sl16 sl17 sl18 sl19 sl20 sl21 sl22 sl23 sl24 sl25 sl26 sl27 sl28 sl29 sl30 sl31 sl32 sl33 sl34 sl35 sl36 sl37 sl38 : Array (Option Value)} {oc0 kV0 dc0 pm0 cd0 ct0 oc1 kV1 dc1 pm1 cd1 ct1 oc2 kV2 dc2 pm2 cd2 ct2 oc3 kV3 dc3 pm3 cd3 ct3 oc4 kV4 dc4 pm4 cd4 ct4 oc5 kV5 dc5 pm5 cd5 ct5 oc6 kV6 dc6 pm6 cd6 ct6 oc7 kV7 dc7 pm7 cd7 ct7 oc8 kV8 dc8 pm8 cd8 ct8 oc9 kV9 dc9 pm9 cd9 ct9 oc10 kV10 dc10 pm10 cd10 ct10 oc11 kV11 dc11 pm11 cd11 ct11 oc12 kV12 dc12 pm12 cd12 ct12 oc13 kV13 dc13 pm13 cd13 ct13 oc14 kV14 dc14 pm14 cd14 ct14 oc15 kV15 dc15 pm15 cd15 ct15 oc16 kV16 dc16 pm16 cd16 ct16 oc17 kV17 dc17 pm17 cd17 ct17 oc18 kV18 dc18 pm18 cd18 ct18 oc19 kV19 dc19 pm19 cd19 ct19 oc20 kV20 dc20 pm20 cd20 ct20 oc21 kV21 dc21 pm21 cd21 ct21 oc22 kV22 dc22 pm22 cd22 ct22 oc23 kV23 dc23 pm23 cd23 ct23 oc24 kV24 dc24 pm24 cd24 ct24 oc25 kV25 dc25 pm25 cd25 ct25 oc26 kV26 dc26 pm26 cd26 ct26 oc27 kV27 dc27 pm27 cd27 ct27 oc28 kV28 dc28 pm28 cd28 ct28 oc29 kV29 dc29 pm29 cd29 ct29 oc30 kV30 dc30 pm30 cd30 ct30 oc31 kV31 dc31 pm31 cd31 ct31 oc32 kV32 dc32 pm32 cd32 ct32 oc33 kV33 dc33 pm33 cd33 ct33 oc34 kV34 dc34 pm34 cd34 ct34 oc35 kV35 dc35 pm35 cd35 ct35 oc36 kV36 dc36 pm36 cd36 ct36 oc37 kV37 dc37 pm37 cd37 ct37 oc38 kV38 dc38 pm38 cd38 ct38 : Value}
    (a0 : PySem.W.nsIn K mainGlobals "_law_cell" = some (some (.ref f0))) (l0 : K.lookup f0 = some ⟨oc0, od0, .func (PySem.W.fnOf "_law_cell" "_law_cell" (defArgs sCell) (defBody sCell) (defScope sCell) .none kV0 dc0 pm0 an0 cd0 ct0), sl0⟩) (c0 : PySem.W.codeIn K cd0 "_law_cell" = true) (k0 : PySem.W.keepIn K (.ref f0) = true)
    (a1 : PySem.W.nsIn K mainGlobals "_law_bag" = some (some (.ref f1))) (l1 : K.lookup f1 = some ⟨oc1, od1, .func (PySem.W.fnOf "_law_bag" "_law_bag" (defArgs sBag) (defBody sBag) (defScope sBag) .none kV1 dc1 pm1 an1 cd1 ct1), sl1⟩) (c1 : PySem.W.codeIn K cd1 "_law_bag" = true) (k1 : PySem.W.keepIn K (.ref f1) = true)
    (a2 : PySem.W.nsIn K mainGlobals "_law_take" = some (some (.ref f2))) (l2 : K.lookup f2 = some ⟨oc2, od2, .func (PySem.W.fnOf "_law_take" "_law_take" (defArgs sTake) (defBody sTake) (defScope sTake) .none kV2 dc2 pm2 an2 cd2 ct2), sl2⟩) (c2 : PySem.W.codeIn K cd2 "_law_take" = true) (k2 : PySem.W.keepIn K (.ref f2) = true)
    (a3 : PySem.W.nsIn K mainGlobals "_law_prime" = some (some (.ref f3))) (l3 : K.lookup f3 = some ⟨oc3, od3, .func (PySem.W.fnOf "_law_prime" "_law_prime" (defArgs sPrime) (defBody sPrime) (defScope sPrime) .none kV3 dc3 pm3 an3 cd3 ct3), sl3⟩) (c3 : PySem.W.codeIn K cd3 "_law_prime" = true) (k3 : PySem.W.keepIn K (.ref f3) = true)
    (a4 : PySem.W.nsIn K mainGlobals "_law_sparse" = some (some (.ref f4))) (l4 : K.lookup f4 = some ⟨oc4, od4, .func (PySem.W.fnOf "_law_sparse" "_law_sparse" (defArgs sSparse) (defBody sSparse) (defScope sSparse) .none kV4 dc4 pm4 an4 cd4 ct4), sl4⟩) (c4 : PySem.W.codeIn K cd4 "_law_sparse" = true) (k4 : PySem.W.keepIn K (.ref f4) = true)
    (a5 : PySem.W.nsIn K mainGlobals "_law_table" = some (some (.ref f5))) (l5 : K.lookup f5 = some ⟨oc5, od5, .func (PySem.W.fnOf "_law_table" "_law_table" (defArgs sTbl) (defBody sTbl) (defScope sTbl) .none kV5 dc5 pm5 an5 cd5 ct5), sl5⟩) (c5 : PySem.W.codeIn K cd5 "_law_table" = true) (k5 : PySem.W.keepIn K (.ref f5) = true)
    (a6 : PySem.W.nsIn K mainGlobals "_law_shaped" = some (some (.ref f6))) (l6 : K.lookup f6 = some ⟨oc6, od6, .func (PySem.W.fnOf "_law_shaped" "_law_shaped" (defArgs sShp) (defBody sShp) (defScope sShp) .none kV6 dc6 pm6 an6 cd6 ct6), sl6⟩) (c6 : PySem.W.codeIn K cd6 "_law_shaped" = true) (k6 : PySem.W.keepIn K (.ref f6) = true)
    (a7 : PySem.W.nsIn K mainGlobals "_law_copy" = some (some (.ref f7))) (l7 : K.lookup f7 = some ⟨oc7, od7, .func (PySem.W.fnOf "_law_copy" "_law_copy" (defArgs sCpy) (defBody sCpy) (defScope sCpy) .none kV7 dc7 pm7 an7 cd7 ct7), sl7⟩) (c7 : PySem.W.codeIn K cd7 "_law_copy" = true) (k7 : PySem.W.keepIn K (.ref f7) = true)
    (a8 : PySem.W.nsIn K mainGlobals "plain" = some (some (.ref f8))) (l8 : K.lookup f8 = some ⟨oc8, od8, .func (PySem.W.fnOf "plain" "plain" (defArgs sPln) (defBody sPln) (defScope sPln) .none kV8 dc8 pm8 an8 cd8 ct8), sl8⟩) (c8 : PySem.W.codeIn K cd8 "plain" = true) (k8 : PySem.W.keepIn K (.ref f8) = true)
    (a9 : PySem.W.nsIn K mainGlobals "flat" = some (some (.ref f9))) (l9 : K.lookup f9 = some ⟨oc9, od9, .func (PySem.W.fnOf "flat" "flat" (defArgs sFlt) (defBody sFlt) (defScope sFlt) .none kV9 dc9 pm9 an9 cd9 ct9), sl9⟩) (c9 : PySem.W.codeIn K cd9 "flat" = true) (k9 : PySem.W.keepIn K (.ref f9) = true)
    (a10 : PySem.W.nsIn K mainGlobals "lead" = some (some (.ref f10))) (l10 : K.lookup f10 = some ⟨oc10, od10, .func (PySem.W.fnOf "lead" "lead" (defArgs sLead) (defBody sLead) (defScope sLead) .none kV10 dc10 pm10 an10 cd10 ct10), sl10⟩) (c10 : PySem.W.codeIn K cd10 "lead" = true) (k10 : PySem.W.keepIn K (.ref f10) = true)
    (a11 : PySem.W.nsIn K mainGlobals "inverse" = some (some (.ref f11))) (l11 : K.lookup f11 = some ⟨oc11, od11, .func (PySem.W.fnOf "inverse" "inverse" (defArgs sInv) (defBody sInv) (defScope sInv) .none kV11 dc11 pm11 an11 cd11 ct11), sl11⟩) (c11 : PySem.W.codeIn K cd11 "inverse" = true) (k11 : PySem.W.keepIn K (.ref f11) = true)
    (a12 : PySem.W.nsIn K mainGlobals "multiplied_by" = some (some (.ref f12))) (l12 : K.lookup f12 = some ⟨oc12, od12, .func (PySem.W.fnOf "multiplied_by" "multiplied_by" (defArgs sMul) (defBody sMul) (defScope sMul) .none kV12 dc12 pm12 an12 cd12 ct12), sl12⟩) (c12 : PySem.W.codeIn K cd12 "multiplied_by" = true) (k12 : PySem.W.keepIn K (.ref f12) = true)
    (a13 : PySem.W.nsIn K mainGlobals "cleared" = some (some (.ref f13))) (l13 : K.lookup f13 = some ⟨oc13, od13, .func (PySem.W.fnOf "cleared" "cleared" (defArgs sClr) (defBody sClr) (defScope sClr) .none kV13 dc13 pm13 an13 cd13 ct13), sl13⟩) (c13 : PySem.W.codeIn K cd13 "cleared" = true) (k13 : PySem.W.keepIn K (.ref f13) = true)
    (a14 : PySem.W.nsIn K mainGlobals "low" = some (some (.ref f14))) (l14 : K.lookup f14 = some ⟨oc14, od14, .func (PySem.W.fnOf "low" "low" (defArgs sLow) (defBody sLow) (defScope sLow) .none kV14 dc14 pm14 an14 cd14 ct14), sl14⟩) (c14 : PySem.W.codeIn K cd14 "low" = true) (k14 : PySem.W.keepIn K (.ref f14) = true)
    (a15 : PySem.W.nsIn K mainGlobals "across" = some (some (.ref f15))) (l15 : K.lookup f15 = some ⟨oc15, od15, .func (PySem.W.fnOf "across" "across" (defArgs sAcr) (defBody sAcr) (defScope sAcr) .none kV15 dc15 pm15 an15 cd15 ct15), sl15⟩) (c15 : PySem.W.codeIn K cd15 "across" = true) (k15 : PySem.W.keepIn K (.ref f15) = true)
    (a16 : PySem.W.nsIn K mainGlobals "image" = some (some (.ref f16))) (l16 : K.lookup f16 = some ⟨oc16, od16, .func (PySem.W.fnOf "image" "image" (defArgs sImg) (defBody sImg) (defScope sImg) .none kV16 dc16 pm16 an16 cd16 ct16), sl16⟩) (c16 : PySem.W.codeIn K cd16 "image" = true) (k16 : PySem.W.keepIn K (.ref f16) = true)
    (a17 : PySem.W.nsIn K mainGlobals "turned" = some (some (.ref f17))) (l17 : K.lookup f17 = some ⟨oc17, od17, .func (PySem.W.fnOf "turned" "turned" (defArgs sTrn) (defBody sTrn) (defScope sTrn) .none kV17 dc17 pm17 an17 cd17 ct17), sl17⟩) (c17 : PySem.W.codeIn K cd17 "turned" = true) (k17 : PySem.W.keepIn K (.ref f17) = true)
    (a18 : PySem.W.nsIn K mainGlobals "to_nought" = some (some (.ref f18))) (l18 : K.lookup f18 = some ⟨oc18, od18, .func (PySem.W.fnOf "to_nought" "to_nought" (defArgs sTon) (defBody sTon) (defScope sTon) .none kV18 dc18 pm18 an18 cd18 ct18), sl18⟩) (c18 : PySem.W.codeIn K cd18 "to_nought" = true) (k18 : PySem.W.keepIn K (.ref f18) = true)
    (a19 : PySem.W.nsIn K mainGlobals "mixture" = some (some (.ref f19))) (l19 : K.lookup f19 = some ⟨oc19, od19, .func (PySem.W.fnOf "mixture" "mixture" (defArgs sMix) (defBody sMix) (defScope sMix) .none kV19 dc19 pm19 an19 cd19 ct19), sl19⟩) (c19 : PySem.W.codeIn K cd19 "mixture" = true) (k19 : PySem.W.keepIn K (.ref f19) = true)
    (a20 : PySem.W.nsIn K mainGlobals "led" = some (some (.ref f20))) (l20 : K.lookup f20 = some ⟨oc20, od20, .func (PySem.W.fnOf "led" "led" (defArgs sLedP) (defBody sLedP) (defScope sLedP) .none kV20 dc20 pm20 an20 cd20 ct20), sl20⟩) (c20 : PySem.W.codeIn K cd20 "led" = true) (k20 : PySem.W.keepIn K (.ref f20) = true)
    (a21 : PySem.W.nsIn K mainGlobals "product" = some (some (.ref f21))) (l21 : K.lookup f21 = some ⟨oc21, od21, .func (PySem.W.fnOf "product" "product" (defArgs sPrdP) (defBody sPrdP) (defScope sPrdP) .none kV21 dc21 pm21 an21 cd21 ct21), sl21⟩) (c21 : PySem.W.codeIn K cd21 "product" = true) (k21 : PySem.W.keepIn K (.ref f21) = true)
    (a22 : PySem.W.nsIn K mainGlobals "with_one_behind" = some (some (.ref f22))) (l22 : K.lookup f22 = some ⟨oc22, od22, .func (PySem.W.fnOf "with_one_behind" "with_one_behind" (defArgs sWob) (defBody sWob) (defScope sWob) .none kV22 dc22 pm22 an22 cd22 ct22), sl22⟩) (c22 : PySem.W.codeIn K cd22 "with_one_behind" = true) (k22 : PySem.W.keepIn K (.ref f22) = true)
    (a23 : PySem.W.nsIn K mainGlobals "least" = some (some (.ref f23))) (l23 : K.lookup f23 = some ⟨oc23, od23, .func (PySem.W.fnOf "least" "least" (defArgs sLea) (defBody sLea) (defScope sLea) .none kV23 dc23 pm23 an23 cd23 ct23), sl23⟩) (c23 : PySem.W.codeIn K cd23 "least" = true) (k23 : PySem.W.keepIn K (.ref f23) = true)
    (a24 : PySem.W.nsIn K mainGlobals "least_of" = some (some (.ref f24))) (l24 : K.lookup f24 = some ⟨oc24, od24, .func (PySem.W.fnOf "least_of" "least_of" (defArgs sLeo) (defBody sLeo) (defScope sLeo) .none kV24 dc24 pm24 an24 cd24 ct24), sl24⟩) (c24 : PySem.W.codeIn K cd24 "least_of" = true) (k24 : PySem.W.keepIn K (.ref f24) = true)
    (a25 : PySem.W.nsIn K mainGlobals "_law_plain" = some (some (.ref f25))) (l25 : K.lookup f25 = some ⟨oc25, od25, .func (PySem.W.fnOf "_law_plain" "_law_plain" (defArgs sLpl) (defBody sLpl) (defScope sLpl) .none kV25 dc25 pm25 an25 cd25 ct25), sl25⟩) (c25 : PySem.W.codeIn K cd25 "_law_plain" = true) (k25 : PySem.W.keepIn K (.ref f25) = true)
    (a26 : PySem.W.nsIn K mainGlobals "_law_flat" = some (some (.ref f26))) (l26 : K.lookup f26 = some ⟨oc26, od26, .func (PySem.W.fnOf "_law_flat" "_law_flat" (defArgs sLfl) (defBody sLfl) (defScope sLfl) .none kV26 dc26 pm26 an26 cd26 ct26), sl26⟩) (c26 : PySem.W.codeIn K cd26 "_law_flat" = true) (k26 : PySem.W.keepIn K (.ref f26) = true)
    (a27 : PySem.W.nsIn K mainGlobals "_law_added" = some (some (.ref f27))) (l27 : K.lookup f27 = some ⟨oc27, od27, .func (PySem.W.fnOf "_law_added" "_law_added" (defArgs sAdd) (defBody sAdd) (defScope sAdd) .none kV27 dc27 pm27 an27 cd27 ct27), sl27⟩) (c27 : PySem.W.codeIn K cd27 "_law_added" = true) (k27 : PySem.W.keepIn K (.ref f27) = true)
    (a28 : PySem.W.nsIn K mainGlobals "_law_led" = some (some (.ref f28))) (l28 : K.lookup f28 = some ⟨oc28, od28, .func (PySem.W.fnOf "_law_led" "_law_led" (defArgs sLed) (defBody sLed) (defScope sLed) .none kV28 dc28 pm28 an28 cd28 ct28), sl28⟩) (c28 : PySem.W.codeIn K cd28 "_law_led" = true) (k28 : PySem.W.keepIn K (.ref f28) = true)
    (a29 : PySem.W.nsIn K mainGlobals "_law_product" = some (some (.ref f29))) (l29 : K.lookup f29 = some ⟨oc29, od29, .func (PySem.W.fnOf "_law_product" "_law_product" (defArgs sPrd) (defBody sPrd) (defScope sPrd) .none kV29 dc29 pm29 an29 cd29 ct29), sl29⟩) (c29 : PySem.W.codeIn K cd29 "_law_product" = true) (k29 : PySem.W.keepIn K (.ref f29) = true)
    (a30 : PySem.W.nsIn K mainGlobals "_law_whole" = some (some (.ref f30))) (l30 : K.lookup f30 = some ⟨oc30, od30, .func (PySem.W.fnOf "_law_whole" "_law_whole" (defArgs sWhole) (defBody sWhole) (defScope sWhole) .none kV30 dc30 pm30 an30 cd30 ct30), sl30⟩) (c30 : PySem.W.codeIn K cd30 "_law_whole" = true) (k30 : PySem.W.keepIn K (.ref f30) = true)
    (a31 : PySem.W.nsIn K mainGlobals "_law_poly_like" = some (some (.ref f31))) (l31 : K.lookup f31 = some ⟨oc31, od31, .func (PySem.W.fnOf "_law_poly_like" "_law_poly_like" (defArgs sPlk) (defBody sPlk) (defScope sPlk) .none kV31 dc31 pm31 an31 cd31 ct31), sl31⟩) (c31 : PySem.W.codeIn K cd31 "_law_poly_like" = true) (k31 : PySem.W.keepIn K (.ref f31) = true)
    (a32 : PySem.W.nsIn K mainGlobals "_law_back" = some (some (.ref f32))) (l32 : K.lookup f32 = some ⟨oc32, od32, .func (PySem.W.fnOf "_law_back" "_law_back" (defArgs sBack) (defBody sBack) (defScope sBack) .none kV32 dc32 pm32 an32 cd32 ct32), sl32⟩) (c32 : PySem.W.codeIn K cd32 "_law_back" = true) (k32 : PySem.W.keepIn K (.ref f32) = true)
    (a33 : PySem.W.nsIn K mainGlobals "_law_less" = some (some (.ref f33))) (l33 : K.lookup f33 = some ⟨oc33, od33, .func (PySem.W.fnOf "_law_less" "_law_less" (defArgs sLess) (defBody sLess) (defScope sLess) .none kV33 dc33 pm33 an33 cd33 ct33), sl33⟩) (c33 : PySem.W.codeIn K cd33 "_law_less" = true) (k33 : PySem.W.keepIn K (.ref f33) = true)
    (a34 : PySem.W.nsIn K mainGlobals "_law_form" = some (some (.ref f34))) (l34 : K.lookup f34 = some ⟨oc34, od34, .func (PySem.W.fnOf "_law_form" "_law_form" (defArgs sForm) (defBody sForm) (defScope sForm) .none kV34 dc34 pm34 an34 cd34 ct34), sl34⟩) (c34 : PySem.W.codeIn K cd34 "_law_form" = true) (k34 : PySem.W.keepIn K (.ref f34) = true)
    (a35 : PySem.W.nsIn K mainGlobals "_law_mixture" = some (some (.ref f35))) (l35 : K.lookup f35 = some ⟨oc35, od35, .func (PySem.W.fnOf "_law_mixture" "_law_mixture" (defArgs sLmx) (defBody sLmx) (defScope sLmx) .none kV35 dc35 pm35 an35 cd35 ct35), sl35⟩) (c35 : PySem.W.codeIn K cd35 "_law_mixture" = true) (k35 : PySem.W.keepIn K (.ref f35) = true)
    (a36 : PySem.W.nsIn K mainGlobals "_law_is_least" = some (some (.ref f36))) (l36 : K.lookup f36 = some ⟨oc36, od36, .func (PySem.W.fnOf "_law_is_least" "_law_is_least" (defArgs sLil) (defBody sLil) (defScope sLil) .none kV36 dc36 pm36 an36 cd36 ct36), sl36⟩) (c36 : PySem.W.codeIn K cd36 "_law_is_least" = true) (k36 : PySem.W.keepIn K (.ref f36) = true)
    (a37 : PySem.W.nsIn K mainGlobals "_law_right" = some (some (.ref f37))) (l37 : K.lookup f37 = some ⟨oc37, od37, .func (PySem.W.fnOf "_law_right" "_law_right" (defArgs sR16) (defBody sR16) (defScope sR16) .none kV37 dc37 pm37 an37 cd37 ct37), sl37⟩) (c37 : PySem.W.codeIn K cd37 "_law_right" = true) (k37 : PySem.W.keepIn K (.ref f37) = true)
    (a38 : PySem.W.nsIn K mainGlobals "law" = some (some (.ref f38))) (l38 : K.lookup f38 = some ⟨oc38, od38, .func (PySem.W.fnOf "law" "law" (defArgs sLaw) (defBody sLaw) (defScope sLaw) .none kV38 dc38 pm38 an38 cd38 ct38), sl38⟩) (c38 : PySem.W.codeIn K cd38 "law" = true) (k38 : PySem.W.keepIn K (.ref f38) = true)
    (z_len : PySem.W.nsIn K mainGlobals "len" = some none) (z_abs : PySem.W.nsIn K mainGlobals "abs" = some none) (z_range : PySem.W.nsIn K mainGlobals "range" = some none) (z_int : PySem.W.nsIn K mainGlobals "int" = some none) (z_list : PySem.W.nsIn K mainGlobals "list" = some none) (z_enumerate : PySem.W.nsIn K mainGlobals "enumerate" = some none) (z_zip : PySem.W.nsIn K mainGlobals "zip" = some none) (z_sum : PySem.W.nsIn K mainGlobals "sum" = some none) (z_isinstance : PySem.W.nsIn K mainGlobals "isinstance" = some none) (z_bool : PySem.W.nsIn K mainGlobals "bool" = some none) (z_all : PySem.W.nsIn K mainGlobals "all" = some none) (z_any : PySem.W.nsIn K mainGlobals "any" = some none) (z_max : PySem.W.nsIn K mainGlobals "max" = some none) (z_min : PySem.W.nsIn K mainGlobals "min" = some none) :
    ∃ fd : FuncData, (∀ (s : Shared) (v : Value), BindsTo s fd ⟨[v], []⟩ [("_law_script", v)]) ∧ ∀ base : Heap, K.In base → base.Ns mainGlobals mg → FnOk l.prog w K mg base CX0 8 fa fd ["_law_script"] (spLaw K) := by
  have e := hfa.symm.trans (PySem.W.mg_of X G a38)
  cases e
  have F0 := fun_mk (st := sCell) l0 c0 k0
  have F1 := fun_mk (st := sBag) l1 c1 k1
  have F2 := fun_mk (st := sTake) l2 c2 k2
  have F3 := fun_mk (st := sPrime) l3 c3 k3
  have F4 := fun_mk (st := sSparse) l4 c4 k4
  have F5 := fun_mk (st := sTbl) l5 c5 k5
  have F6 := fun_mk (st := sShp) l6 c6 k6
  have F7 := fun_mk (st := sCpy) l7 c7 k7
  have F8 := fun_mk (st := sPln) l8 c8 k8
  have F9 := fun_mk (st := sFlt) l9 c9 k9
  have F10 := fun_mk (st := sLead) l10 c10 k10
  have F11 := fun_mk (st := sInv) l11 c11 k11
  have F12 := fun_mk (st := sMul) l12 c12 k12
  have F13 := fun_mk (st := sClr) l13 c13 k13
  have F14 := fun_mk (st := sLow) l14 c14 k14
  have F15 := fun_mk (st := sAcr) l15 c15 k15
  have F16 := fun_mk (st := sImg) l16 c16 k16
  have F17 := fun_mk (st := sTrn) l17 c17 k17
  have F18 := fun_mk (st := sTon) l18 c18 k18
  have F19 := fun_mk (st := sMix) l19 c19 k19
  have F20 := fun_mk (st := sLedP) l20 c20 k20
  have F21 := fun_mk (st := sPrdP) l21 c21 k21
  have F22 := fun_mk (st := sWob) l22 c22 k22
  have F23 := fun_mk (st := sLea) l23 c23 k23
  have F24 := fun_mk (st := sLeo) l24 c24 k24
  have F25 := fun_mk (st := sLpl) l25 c25 k25
  have F26 := fun_mk (st := sLfl) l26 c26 k26
  have F27 := fun_mk (st := sAdd) l27 c27 k27
  have F28 := fun_mk (st := sLed) l28 c28 k28
  have F29 := fun_mk (st := sPrd) l29 c29 k29
  have F30 := fun_mk (st := sWhole) l30 c30 k30
  have F31 := fun_mk (st := sPlk) l31 c31 k31
  have F32 := fun_mk (st := sBack) l32 c32 k32
  have F33 := fun_mk (st := sLess) l33 c33 k33
  have F34 := fun_mk (st := sForm) l34 c34 k34
  have F35 := fun_mk (st := sLmx) l35 c35 k35
  have F36 := fun_mk (st := sLil) l36 c36 k36
  have F37 := fun_mk (st := sR16) l37 c37 k37
  have F38 := fun_mk (st := sLaw) l38 c38 k38
  have b0 := F0.binds (ps := ["_law_script", "_law_k"]) fun _ _ _ _ _ _ us hl => match us, hl with | [_, _], _ => rfl
  have b1 := F1.binds (ps := ["_law_script", "_law_at"]) fun _ _ _ _ _ _ us hl => match us, hl with | [_, _], _ => rfl
  have b2 := F2.binds (ps := ["_law_bag_here", "_law_many"]) fun _ _ _ _ _ _ us hl => match us, hl with | [_, _], _ => rfl
  have b3 := F3.binds (ps := ["_law_bag_here"]) fun _ _ _ _ _ _ us hl => match us, hl with | [_], _ => rfl
  have b4 := F4.binds (ps := ["_law_p", "_law_length", "_law_bag_here"]) fun _ _ _ _ _ _ us hl => match us, hl with | [_, _, _], _ => rfl
  have b5 := F5.binds (ps := ["_law_p", "_law_high", "_law_wide", "_law_bag_here"]) fun _ _ _ _ _ _ us hl => match us, hl with | [_, _, _, _], _ => rfl
  have b6 := F6.binds (ps := ["_law_p", "_law_size", "_law_bag_here"]) fun _ _ _ _ _ _ us hl => match us, hl with | [_, _, _], _ => rfl
  have b7 := F7.binds (ps := ["_law_table_here"]) fun _ _ _ _ _ _ us hl => match us, hl with | [_], _ => rfl
  have b8 := F8.binds (ps := ["size"]) fun _ _ _ _ _ _ us hl => match us, hl with | [_], _ => rfl
  have b9 := F9.binds (ps := ["table"]) fun _ _ _ _ _ _ us hl => match us, hl with | [_], _ => rfl
  have b10 := F10.binds (ps := ["row"]) fun _ _ _ _ _ _ us hl => match us, hl with | [_], _ => rfl
  have b11 := F11.binds (ps := ["p", "rest"]) fun _ _ _ _ _ _ us hl => match us, hl with | [_, _], _ => rfl
  have b12 := F12.binds (ps := ["p", "rest", "rests"]) fun _ _ _ _ _ _ us hl => match us, hl with | [_, _, _], _ => rfl
  have b13 := F13.binds (ps := ["p", "rows", "place", "by"]) fun _ _ _ _ _ _ us hl => match us, hl with | [_, _, _, _], _ => rfl
  have b14 := F14.binds (ps := ["p", "rows"]) fun _ _ _ _ _ _ us hl => match us, hl with | [_, _], _ => rfl
  have b15 := F15.binds (ps := ["p", "length", "form"]) fun _ _ _ _ _ _ us hl => match us, hl with | [_, _, _], _ => rfl
  have b16 := F16.binds (ps := ["p", "table"]) fun _ _ _ _ _ _ us hl => match us, hl with | [_, _], _ => rfl
  have b17 := F17.binds (ps := ["table"]) fun _ _ _ _ _ _ us hl => match us, hl with | [_], _ => rfl
  have b18 := F18.binds (ps := ["p", "table"]) fun _ _ _ _ _ _ us hl => match us, hl with | [_, _], _ => rfl
  have b19 := F19.binds (ps := ["p", "shares", "rows", "length"]) fun _ _ _ _ _ _ us hl => match us, hl with | [_, _, _, _], _ => rfl
  have b20 := F20.binds (ps := ["p", "row", "table"]) fun _ _ _ _ _ _ us hl => match us, hl with | [_, _, _], _ => rfl
  have b21 := F21.binds (ps := ["p", "one", "other"]) fun _ _ _ _ _ _ us hl => match us, hl with | [_, _, _], _ => rfl
  have b22 := F22.binds (ps := ["p", "poly"]) fun _ _ _ _ _ _ us hl => match us, hl with | [_, _], _ => rfl
  have b23 := F23.binds (ps := ["p", "table"]) fun _ _ _ _ _ _ us hl => match us, hl with | [_, _], _ => rfl
  have b24 := F24.binds (ps := ["p", "table", "row"]) fun _ _ _ _ _ _ us hl => match us, hl with | [_, _, _], _ => rfl
  have b25 := F25.binds (ps := ["_law_size"]) fun _ _ _ _ _ _ us hl => match us, hl with | [_], _ => rfl
  have b26 := F26.binds (ps := ["_law_table_here"]) fun _ _ _ _ _ _ us hl => match us, hl with | [_], _ => rfl
  have b27 := F27.binds (ps := ["_law_p", "_law_row", "_law_rest", "_law_other"]) fun _ _ _ _ _ _ us hl => match us, hl with | [_, _, _, _], _ => rfl
  have b28 := F28.binds (ps := ["_law_p", "_law_row", "_law_table_here"]) fun _ _ _ _ _ _ us hl => match us, hl with | [_, _, _], _ => rfl
  have b29 := F29.binds (ps := ["_law_p", "_law_one", "_law_other"]) fun _ _ _ _ _ _ us hl => match us, hl with | [_, _, _], _ => rfl
  have b30 := F30.binds (ps := ["_law_thing", "_law_end"]) fun _ _ _ _ _ _ us hl => match us, hl with | [_, _], _ => rfl
  have b31 := F31.binds (ps := ["_law_p", "_law_thing"]) fun _ _ _ _ _ _ us hl => match us, hl with | [_, _], _ => rfl
  have b32 := F32.binds (ps := ["_law_p", "_law_rest"]) fun _ _ _ _ _ _ us hl => match us, hl with | [_, _], _ => rfl
  have b33 := F33.binds (ps := ["_law_p", "_law_row", "_law_rest", "_law_other"]) fun _ _ _ _ _ _ us hl => match us, hl with | [_, _, _, _], _ => rfl
  have b34 := F34.binds (ps := ["_law_p", "_law_rows"]) fun _ _ _ _ _ _ us hl => match us, hl with | [_, _], _ => rfl
  have b35 := F35.binds (ps := ["_law_p", "_law_numbers", "_law_rows"]) fun _ _ _ _ _ _ us hl => match us, hl with | [_, _, _], _ => rfl
  have b36 := F36.binds (ps := ["_law_p", "_law_told", "_law_rows"]) fun _ _ _ _ _ _ us hl => match us, hl with | [_, _, _], _ => rfl
  have b37 := F37.binds (ps := ["_law_p", "_law_table_here", "_law_row"]) fun _ _ _ _ _ _ us hl => match us, hl with | [_, _, _], _ => rfl
  have g0 := PySem.W.mg_of X G a0
  have g1 := PySem.W.mg_of X G a1
  have g2 := PySem.W.mg_of X G a2
  have g3 := PySem.W.mg_of X G a3
  have g4 := PySem.W.mg_of X G a4
  have g5 := PySem.W.mg_of X G a5
  have g6 := PySem.W.mg_of X G a6
  have g7 := PySem.W.mg_of X G a7
  have g8 := PySem.W.mg_of X G a8
  have g9 := PySem.W.mg_of X G a9
  have g10 := PySem.W.mg_of X G a10
  have g11 := PySem.W.mg_of X G a11
  have g12 := PySem.W.mg_of X G a12
  have g13 := PySem.W.mg_of X G a13
  have g14 := PySem.W.mg_of X G a14
  have g15 := PySem.W.mg_of X G a15
  have g16 := PySem.W.mg_of X G a16
  have g17 := PySem.W.mg_of X G a17
  have g18 := PySem.W.mg_of X G a18
  have g19 := PySem.W.mg_of X G a19
  have g20 := PySem.W.mg_of X G a20
  have g21 := PySem.W.mg_of X G a21
  have g22 := PySem.W.mg_of X G a22
  have g23 := PySem.W.mg_of X G a23
  have g24 := PySem.W.mg_of X G a24
  have g25 := PySem.W.mg_of X G a25
  have g26 := PySem.W.mg_of X G a26
  have g27 := PySem.W.mg_of X G a27
  have g28 := PySem.W.mg_of X G a28
  have g29 := PySem.W.mg_of X G a29
  have g30 := PySem.W.mg_of X G a30
  have g31 := PySem.W.mg_of X G a31
  have g32 := PySem.W.mg_of X G a32
  have g33 := PySem.W.mg_of X G a33
  have g34 := PySem.W.mg_of X G a34
  have g35 := PySem.W.mg_of X G a35
  have g36 := PySem.W.mg_of X G a36
  have g37 := PySem.W.mg_of X G a37
  have m_len := PySem.W.mg_none_of X G z_len
  have m_abs := PySem.W.mg_none_of X G z_abs
  have m_range := PySem.W.mg_none_of X G z_range
  have m_int := PySem.W.mg_none_of X G z_int
  have m_list := PySem.W.mg_none_of X G z_list
  have m_enumerate := PySem.W.mg_none_of X G z_enumerate
  have m_zip := PySem.W.mg_none_of X G z_zip
  have m_sum := PySem.W.mg_none_of X G z_sum
  have m_isinstance := PySem.W.mg_none_of X G z_isinstance
  have m_bool := PySem.W.mg_none_of X G z_bool
  have m_all := PySem.W.mg_none_of X G z_all
  have m_any := PySem.W.mg_none_of X G z_any
  have m_max := PySem.W.mg_none_of X G z_max
  have m_min := PySem.W.mg_none_of X G z_min
  refine ⟨PySem.W.fnOf "law" "law" (defArgs sLaw) (defBody sLaw) (defScope sLaw) .none kV38 dc38 pm38 an38 cd38 ct38, fun s v => .of_eq rfl, fun base _ _ => ?_⟩
  have G0_6 : FnOk l.prog w K mg base CX0 6 f0 _ _ (spCell K) := ok_cell F0   m_len
  have G1_7 : FnOk l.prog w K mg base CX0 7 f1 _ _ (spBag K) := ok_bag F1 G0_6 b0 k0 g0  m_abs
  have G2_6 : FnOk l.prog w K mg base CX0 6 f2 _ _ spTake := ok_take F2   
  have G3_7 : FnOk l.prog w K mg base CX0 7 f3 _ _ spPrime := ok_prime F3 G2_6 b2 k2 g2  
  have G2_7 : FnOk l.prog w K mg base CX0 7 f2 _ _ spTake := ok_take F2   
  have G2_5 : FnOk l.prog w K mg base CX0 5 f2 _ _ spTake := ok_take F2   
  have G2_4 : FnOk l.prog w K mg base CX0 4 f2 _ _ spTake := ok_take F2   
  have G4_5 : FnOk l.prog w K mg base CX0 5 f4 _ _ spSparse := ok_sparse F4 G2_4 b2 k2 g2  m_range m_int
  have G5_6 : FnOk l.prog w K mg base CX0 6 f5 _ _ spTbl := ok_tbl F5 G2_5 b2 k2 g2 G4_5 b4 k4 g4  m_range m_len
  have G6_7 : FnOk l.prog w K mg base CX0 7 f6 _ _ spShp := ok_Shp F6 G5_6 b5 k5 g5 G2_6 b2 k2 g2  m_range m_int
  have G4_7 : FnOk l.prog w K mg base CX0 7 f4 _ _ spSparse := ok_sparse F4 G2_6 b2 k2 g2  m_range m_int
  have G7_6 : FnOk l.prog w K mg base CX0 6 f7 _ _ spCpy := ok_cpy F7   m_list
  have G8_5 : FnOk l.prog w K mg base CX0 5 f8 _ _ spPln := ok_Pln F8   m_range
  have G9_5 : FnOk l.prog w K mg base CX0 5 f9 _ _ spFlt := ok_Flt F9   
  have G10_3 : FnOk l.prog w K mg base CX0 3 f10 _ _ spLead := ok_lead F10   m_enumerate
  have G11_2 : FnOk l.prog w K mg base CX0 2 f11 _ _ spInv := ok_inv F11   
  have G12_2 : FnOk l.prog w K mg base CX0 2 f12 _ _ spMul := ok_mul F12   
  have G13_2 : FnOk l.prog w K mg base CX0 2 f13 _ _ spClr := ok_clr F13   m_zip
  have G14_3 : FnOk l.prog w K mg base CX0 3 f14 _ _ spLow := ok_low F14 G11_2 b11 k11 g11 G12_2 b12 k12 g12 G13_2 b13 k13 g13  m_len m_range m_list
  have G15_4 : FnOk l.prog w K mg base CX0 4 f15 _ _ spAcr := ok_acr F15 G10_3 b10 k10 g10 G14_3 b14 k14 g14  m_range m_zip
  have G16_4 : FnOk l.prog w K mg base CX0 4 f16 _ _ spLow := ok_Img F16 G14_3 b14 k14 g14  
  have G17_4 : FnOk l.prog w K mg base CX0 4 f17 _ _ spTrn := ok_Trn F17   m_zip m_list
  have G18_5 : FnOk l.prog w K mg base CX0 5 f18 _ _ spTon := ok_Ton F18 G15_4 b15 k15 g15 G16_4 b16 k16 g16 G17_4 b17 k17 g17  m_len
  have G19_3 : FnOk l.prog w K mg base CX0 3 f19 _ _ spMix := ok_mix F19   m_range m_sum m_zip
  have G20_4 : FnOk l.prog w K mg base CX0 4 f20 _ _ spLed := ok_LedP F20 G19_3 b19 k19 g19  m_len
  have G21_5 : FnOk l.prog w K mg base CX0 5 f21 _ _ spPrd := ok_PrdP F21 G20_4 b20 k20 g20  
  have G11_4 : FnOk l.prog w K mg base CX0 4 f11 _ _ spInv := ok_inv F11   
  have G12_4 : FnOk l.prog w K mg base CX0 4 f12 _ _ spMul := ok_mul F12   
  have G22_5 : FnOk l.prog w K mg base CX0 5 f22 _ _ spWob := ok_wob F22 G11_4 b11 k11 g11 G12_4 b12 k12 g12  
  have G23_6 : FnOk l.prog w K mg base CX0 6 f23 _ _ spLea := ok_Lea F23 G8_5 b8 k8 g8 G9_5 b9 k9 g9 G18_5 b18 k18 g18 G21_5 b21 k21 g21 G22_5 b22 k22 g22  m_len
  have G19_4 : FnOk l.prog w K mg base CX0 4 f19 _ _ spMix := ok_mix F19   m_range m_sum m_zip
  have G20_5 : FnOk l.prog w K mg base CX0 5 f20 _ _ spLed := ok_LedP F20 G19_4 b19 k19 g19  m_len
  have G24_6 : FnOk l.prog w K mg base CX0 6 f24 _ _ spLeo := ok_Leo F24 G18_5 b18 k18 g18 G20_5 b20 k20 g20 G22_5 b22 k22 g22  
  have G25_6 : FnOk l.prog w K mg base CX0 6 f25 _ _ spPln := ok_Lpl F25   m_range m_int
  have G26_6 : FnOk l.prog w K mg base CX0 6 f26 _ _ spLfl := ok_Lfl F26   
  have G27_4 : FnOk l.prog w K mg base CX0 4 f27 _ _ spAdd := ok_add F27   m_zip
  have G28_5 : FnOk l.prog w K mg base CX0 5 f28 _ _ spLed := ok_led F28 G27_4 b27 k27 g27  m_zip
  have G29_6 : FnOk l.prog w K mg base CX0 6 f29 _ _ spPrd := ok_prd F29 G28_5 b28 k28 g28  
  have G27_5 : FnOk l.prog w K mg base CX0 5 f27 _ _ spAdd := ok_add F27   m_zip
  have G28_6 : FnOk l.prog w K mg base CX0 6 f28 _ _ spLed := ok_led F28 G27_5 b27 k27 g27  m_zip
  have G30_4 : FnOk l.prog w K mg base CX0 4 f30 _ _ spWhole := ok_whole F30   m_isinstance m_int m_bool
  have G31_5 : FnOk l.prog w K mg base CX0 5 f31 _ _ spPlk := ok_plk F31 G30_4 b30 k30 g30  m_isinstance m_list m_len m_all
  have G32_4 : FnOk l.prog w K mg base CX0 4 f32 _ _ spBack := ok_back F32   m_range
  have G33_4 : FnOk l.prog w K mg base CX0 4 f33 _ _ spLess := ok_less F33   m_zip
  have G34_5 : FnOk l.prog w K mg base CX0 5 f34 _ _ spForm := ok_form F34 G32_4 b32 k32 g32 G33_4 b33 k33 g33  m_len m_range m_list
  have G35_5 : FnOk l.prog w K mg base CX0 5 f35 _ _ spLmx := ok_Lmx F35   m_zip
  have G36_6 : FnOk l.prog w K mg base CX0 6 f36 _ _ spLil := ok_Lil F36 G31_5 b31 k31 g31 G34_5 b34 k34 g34 G35_5 b35 k35 g35  m_len m_any
  have G37_7 : FnOk l.prog w K mg base CX0 7 f37 _ _ spR16 := ok_R16 F37 G7_6 b7 k7 g7 G23_6 b23 k23 g23 G24_6 b24 k24 g24 G25_6 b25 k25 g25 G26_6 b26 k26 g26 G29_6 b29 k29 g29 G28_6 b28 k28 g28 G36_6 b36 k36 g36  m_list m_len m_range
  exact ok_Law F38 G1_7 b1 k1 g1 G3_7 b3 k3 g3 G2_7 b2 k2 g2 G6_7 b6 k6 g6 G4_7 b4 k4 g4 G37_7 b37 k37 g37  m_range m_max m_min m_len
end My
open PySem PySem.W PyProof.Rows
set_option maxRecDepth 100000 in
set_option maxHeartbeats 0 in
theorem PySem.Challenge.cw_stillspans_k16_least_holds : PySem.Challenge.rw_stillspans_k16_least.Holds := by
  w_on; o_law; k_head; (case hw => w_witness2)
  k_fill
  refine L2.walk_of (l := PySem.Challenge.rw_stillspans_k16_least) (n := 63) (k := 8) (x := "_law_script") (CX := fun _ => L2.CX0) (sp := fun w => My.spLaw _) rfl (by decide) rfl ⟨rfl, by decide, by decide⟩ (fun w h Y => PySem.W.kIn_of Y) ?F (fun _ _ a ns hl _ hS => ⟨a, ns, rfl, hS, hl, fun _ => rfl⟩) (fun _ _ _ _ _ h => h)
  case F =>
    intro w mg fa h KX G hmg
    refine' My.all_mk KX G hmg ?a0 ?l0 ?c0 ?k0 ?a1 ?l1 ?c1 ?k1 ?a2 ?l2 ?c2 ?k2 ?a3 ?l3 ?c3 ?k3 ?a4 ?l4 ?c4 ?k4 ?a5 ?l5 ?c5 ?k5 ?a6 ?l6 ?c6 ?k6 ?a7 ?l7 ?c7 ?k7 ?a8 ?l8 ?c8 ?k8 ?a9 ?l9 ?c9 ?k9 ?a10 ?l10 ?c10 ?k10 ?a11 ?l11 ?c11 ?k11 ?a12 ?l12 ?c12 ?k12 ?a13 ?l13 ?c13 ?k13 ?a14 ?l14 ?c14 ?k14 ?a15 ?l15 ?c15 ?k15 ?a16 ?l16 ?c16 ?k16 ?a17 ?l17 ?c17 ?k17 ?a18 ?l18 ?c18 ?k18 ?a19 ?l19 ?c19 ?k19 ?a20 ?l20 ?c20 ?k20 ?a21 ?l21 ?c21 ?k21 ?a22 ?l22 ?c22 ?k22 ?a23 ?l23 ?c23 ?k23 ?a24 ?l24 ?c24 ?k24 ?a25 ?l25 ?c25 ?k25 ?a26 ?l26 ?c26 ?k26 ?a27 ?l27 ?c27 ?k27 ?a28 ?l28 ?c28 ?k28 ?a29 ?l29 ?c29 ?k29 ?a30 ?l30 ?c30 ?k30 ?a31 ?l31 ?c31 ?k31 ?a32 ?l32 ?c32 ?k32 ?a33 ?l33 ?c33 ?k33 ?a34 ?l34 ?c34 ?k34 ?a35 ?l35 ?c35 ?k35 ?a36 ?l36 ?c36 ?k36 ?a37 ?l37 ?c37 ?k37 ?a38 ?l38 ?c38 ?k38 ?z_len ?z_abs ?z_range ?z_int ?z_list ?z_enumerate ?z_zip ?z_sum ?z_isinstance ?z_bool ?z_all ?z_any ?z_max ?z_min
    (case a0 => k_is)
    (case l0 => k_is)
    (case c0 => k_is)
    (case k0 => k_is)
    (case a1 => k_is)
    (case l1 => k_is)
    (case c1 => k_is)
    (case k1 => k_is)
    (case a2 => k_is)
    (case l2 => k_is)
    (case c2 => k_is)
    (case k2 => k_is)
    (case a3 => k_is)
    (case l3 => k_is)
    (case c3 => k_is)
    (case k3 => k_is)
    (case a4 => k_is)
    (case l4 => k_is)
    (case c4 => k_is)
    (case k4 => k_is)
    (case a5 => k_is)
    (case l5 => k_is)
    (case c5 => k_is)
    (case k5 => k_is)
    (case a6 => k_is)
    (case l6 => k_is)
    (case c6 => k_is)
    (case k6 => k_is)
    (case a7 => k_is)
    (case l7 => k_is)
    (case c7 => k_is)
    (case k7 => k_is)
    (case a8 => k_is)
    (case l8 => k_is)
    (case c8 => k_is)
    (case k8 => k_is)
    (case a9 => k_is)
    (case l9 => k_is)
    (case c9 => k_is)
    (case k9 => k_is)
    (case a10 => k_is)
    (case l10 => k_is)
    (case c10 => k_is)
    (case k10 => k_is)
    (case a11 => k_is)
    (case l11 => k_is)
    (case c11 => k_is)
    (case k11 => k_is)
    (case a12 => k_is)
    (case l12 => k_is)
    (case c12 => k_is)
    (case k12 => k_is)
    (case a13 => k_is)
    (case l13 => k_is)
    (case c13 => k_is)
    (case k13 => k_is)
    (case a14 => k_is)
    (case l14 => k_is)
    (case c14 => k_is)
    (case k14 => k_is)
    (case a15 => k_is)
    (case l15 => k_is)
    (case c15 => k_is)
    (case k15 => k_is)
    (case a16 => k_is)
    (case l16 => k_is)
    (case c16 => k_is)
    (case k16 => k_is)
    (case a17 => k_is)
    (case l17 => k_is)
    (case c17 => k_is)
    (case k17 => k_is)
    (case a18 => k_is)
    (case l18 => k_is)
    (case c18 => k_is)
    (case k18 => k_is)
    (case a19 => k_is)
    (case l19 => k_is)
    (case c19 => k_is)
    (case k19 => k_is)
    (case a20 => k_is)
    (case l20 => k_is)
    (case c20 => k_is)
    (case k20 => k_is)
    (case a21 => k_is)
    (case l21 => k_is)
    (case c21 => k_is)
    (case k21 => k_is)
    (case a22 => k_is)
    (case l22 => k_is)
    (case c22 => k_is)
    (case k22 => k_is)
    (case a23 => k_is)
    (case l23 => k_is)
    (case c23 => k_is)
    (case k23 => k_is)
    (case a24 => k_is)
    (case l24 => k_is)
    (case c24 => k_is)
    (case k24 => k_is)
    (case a25 => k_is)
    (case l25 => k_is)
    (case c25 => k_is)
    (case k25 => k_is)
    (case a26 => k_is)
    (case l26 => k_is)
    (case c26 => k_is)
    (case k26 => k_is)
    (case a27 => k_is)
    (case l27 => k_is)
    (case c27 => k_is)
    (case k27 => k_is)
    (case a28 => k_is)
    (case l28 => k_is)
    (case c28 => k_is)
    (case k28 => k_is)
    (case a29 => k_is)
    (case l29 => k_is)
    (case c29 => k_is)
    (case k29 => k_is)
    (case a30 => k_is)
    (case l30 => k_is)
    (case c30 => k_is)
    (case k30 => k_is)
    (case a31 => k_is)
    (case l31 => k_is)
    (case c31 => k_is)
    (case k31 => k_is)
    (case a32 => k_is)
    (case l32 => k_is)
    (case c32 => k_is)
    (case k32 => k_is)
    (case a33 => k_is)
    (case l33 => k_is)
    (case c33 => k_is)
    (case k33 => k_is)
    (case a34 => k_is)
    (case l34 => k_is)
    (case c34 => k_is)
    (case k34 => k_is)
    (case a35 => k_is)
    (case l35 => k_is)
    (case c35 => k_is)
    (case k35 => k_is)
    (case a36 => k_is)
    (case l36 => k_is)
    (case c36 => k_is)
    (case k36 => k_is)
    (case a37 => k_is)
    (case l37 => k_is)
    (case c37 => k_is)
    (case k37 => k_is)
    (case a38 => k_is)
    (case l38 => k_is)
    (case c38 => k_is)
    (case k38 => k_is)
    (case z_len => k_is)
    (case z_abs => k_is)
    (case z_range => k_is)
    (case z_int => k_is)
    (case z_list => k_is)
    (case z_enumerate => k_is)
    (case z_zip => k_is)
    (case z_sum => k_is)
    (case z_isinstance => k_is)
    (case z_bool => k_is)
    (case z_all => k_is)
    (case z_any => k_is)
    (case z_max => k_is)
    (case z_min => k_is)
