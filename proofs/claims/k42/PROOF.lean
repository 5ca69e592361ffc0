import PyProof.Rows.All
import Wide.All
import OpenK.AllK
import Wide.FinOn
import PyProof.Rows.All
import OpenK.AllK
import HandS.Lambda
import HandS.Nested
import HandS.ForMost
import HandS.ForExc
import HandS.Style
import HandS.Gcd
import HandS.IsInst
import HandS.Wide
import HandS.SortInts
import HandS.ExcIs
import HandS.TryMany
import HandS.ExcField
import HandS.Walk
import HandS.Zip
import HandS.TupMul
import HandS.TupAny
import HandS.RevRange
import KE.GoesMore
import HandS.Defaults
import KE.GoesZip
import KE.GoesEnum
import HandS.FStr
import HandS.Text
import HandS.DictComp
import HandS.GenList
import HandS.Comp
import HandS.Words
import HandS.CallSlots
import HandS.Deep
import HandS.Star
import PyProof.P3In
import PyProof.Rows.InDataRows
import HandS.ExcInit
import KE.KExcSuper
import HandS.Rev
import HandS.TupSets
import KE.KOpsOwn
import KE.KCallOwn
import KE.KMathG
import KE.KNestM
import KE.KLam
import HandS.EndTab
import PySem.Challenge.RW_fieldmaps_k42_papers_of_orders
set_option Elab.async false
set_option linter.all false
set_option maxRecDepth 100000
namespace Mir
open PySem PySem.Spec PyProof.Rows L2

/-! ### results of the mirrors -/
inductive Er where
  | zd | mal | refu (r : Str) | nt (i : Int)
  deriving DecidableEq
inductive R (α : Type) where
  | ok (a : α) | er (e : Er) | out
  deriving DecidableEq
@[inline] def R.bind {α β : Type} (m : R α) (f : α → R β) : R β := match m with
  | .ok a => f a
  | .er e => .er e
  | .out => .out
@[simp] theorem R.bind_ok {α β : Type} (a : α) (f : α → R β) : (R.ok a).bind f = f a := rfl
@[simp] theorem R.bind_er {α β : Type} (e : Er) (f : α → R β) : (R.er e : R α).bind f = .er e := rfl
@[simp] theorem R.bind_out {α β : Type} (f : α → R β) : (R.out : R α).bind f = .out := rfl
/-- where a test does not hold, nothing is said -/
@[irreducible] def grd (c : Prop) [Decidable c] {α : Type} (m : R α) : R α := if c then m else .out
def wp {α : Type} (m : R α) (P : α → Prop) (E : Er → Prop) : Prop := match m with
  | .ok a => P a
  | .er e => E e
  | .out => False
section
variable {α β : Type} {P : α → Prop} {Q : β → Prop} {E : Er → Prop}
theorem wp_bind {m : R α} {f : α → R β} (h : wp (m.bind f) Q E) : wp m (fun a => wp (f a) Q E) E := by
  cases m <;> exact h
theorem wp_imp {m : R α} {P' : α → Prop} {E' : Er → Prop} (h : wp m P E) (k : ∀ a, P a → P' a) (e : ∀ x, E x → E' x) : wp m P' E' := by
  cases m with
  | ok a => exact k a h
  | er x => exact e x h
  | out => exact h
theorem wp_grd {c : Prop} [Decidable c] {m : R α} (h : wp (grd c m) P E) : c ∧ wp m P E := by
  unfold grd at h
  by_cases hc : c
  · rw [if_pos hc] at h
    exact ⟨hc, h⟩
  · rw [if_neg hc] at h
    exact h.elim
end
/-! ### loops -/
def foldR {σ α : Type} (f : σ → α → R σ) : σ → List α → R σ
  | s, [] => .ok s
  | s, x :: xs => (f s x).bind fun s' => foldR f s' xs
/-- a turn's end -/
inductive Lp (σ ρ : Type) where
  | nx (s : σ) | bk (s : σ) | rt (r : ρ)
  deriving DecidableEq
inductive Le (σ ρ : Type) where
  | dn (s : σ) | rt (r : ρ)
  deriving DecidableEq
def loopR {σ ρ α : Type} (f : σ → α → R (Lp σ ρ)) : σ → List α → R (Le σ ρ)
  | s, [] => .ok (.dn s)
  | s, x :: xs => (f s x).bind fun o => match o with
    | .nx s' => loopR f s' xs
    | .bk s' => .ok (.dn s')
    | .rt r => .ok (.rt r)
def whileR {σ : Type} (c : σ → R Bool) (f : σ → R σ) : Nat → σ → R σ
  | 0, _ => .out
  | n + 1, s => (c s).bind fun b => if b = true then (f s).bind fun s' => whileR c f n s' else .ok s
def whileL {σ ρ : Type} (c : σ → R Bool) (f : σ → R (Lp σ ρ)) : Nat → σ → R (Le σ ρ)
  | 0, _ => .out
  | n + 1, s => (c s).bind fun b => if b = true then (f s).bind fun o => match o with
    | .nx s' => whileL c f n s'
    | .bk s' => .ok (.dn s')
    | .rt r => .ok (.rt r) else .ok (.dn s)
/-- behind a loop that may be left by return -/
def Le.thn {σ ρ τ : Type} (o : Le σ ρ) (k : σ → R τ) (ret : ρ → R τ) : R τ := match o with
  | .dn s => k s
  | .rt r => ret r
/-- what is wanted behind a turn -/
def lpP {σ ρ : Type} (nx bk : σ → Prop) (rt : ρ → Prop) : Lp σ ρ → Prop
  | .nx s => nx s
  | .bk s => bk s
  | .rt r => rt r
def leP {σ ρ : Type} (dn : σ → Prop) (rt : ρ → Prop) : Le σ ρ → Prop
  | .dn s => dn s
  | .rt r => rt r
/-- the ints lo, lo + 1, .. -/
def rng (lo : Int) : Nat → List Int
  | 0 => []
  | n + 1 => lo :: rng (lo + 1) n
theorem rng_length (lo : Int) (n : Nat) : (rng lo n).length = n := by
  induction n generalizing lo with
  | zero => rfl
  | succ n ih => exact congrArg Nat.succ (ih (lo + 1))
/-! ### ints -/
def pabs (i : Int) : Int := if i < 0 then -i else i
/-! ### heaps -/
/-- how the lambdas of a program are called, by their places; which attributes are the last that a class gives its objects -/
class Nm where
  nm : Nat → Nat → Str
  last : Str → Bool
variable [Nm]
open Classical in
/-- the kinds of objects that change; an instance changes till it has its last attribute -/
noncomputable def kd : HO → Nat
  | .lst _ => 1
  | .dK _ => 2
  | .dT _ => 3
  | .set _ _ => 4
  | .tbl _ => 9
  | .ext φ => if (∃ c q, HO.ext φ = LamX.CodeO c q) then 0 else 6
  | .ins _ _ fs => match fs.getLast? with
    | some (f, _) => if Nm.last f then 0 else 5
    | none => 5
  | _ => 0
theorem kd_code {c : Addr} {q : Str} : kd (LamX.CodeO c q) = 0 := by
  unfold kd LamX.CodeO
  exact if_pos ⟨c, q, rfl⟩
/-- all is as it was, but what changes at A; that is still of its kind -/
structure Gr (A : List Addr) (H H' : Hp) : Prop where
  ob : ∀ b o, H b = some o → ∃ o', H' b = some o' ∧ (o' = o ∨ (b ∈ A ∧ kd o ≠ 0 ∧ kd o' = kd o) ∨ (kd o = 9 ∧ kd o' = 9))
  tb : ∀ P, NdefX.TabN H P Nm.nm → NdefX.TabN H' P Nm.nm
theorem Gr.to {A : List Addr} {H H' : Hp} {b : Addr} {o : HO} (g : Gr A H H') (h : H b = some o) (n : b ∈ A → kd o = 0) (t : kd o ≠ 9) : H' b = some o := by
  obtain ⟨o', h1, h2⟩ := g.ob b o h
  rcases h2 with rfl | ⟨m, k, _⟩ | ⟨k, _⟩
  · exact h1
  · exact absurd (n m) k
  · exact absurd k t
theorem Gr.refl {A : List Addr} (H : Hp) : Gr A H H := ⟨fun _ o h => ⟨o, h, .inl rfl⟩, fun _ h => h⟩
theorem gr_two {A A0 : List Addr} {c : Addr} {o o1 o2 : HO} (n : c ∈ A → c ∈ A0) (e1 : o1 = o ∨ (c ∈ A0 ∧ kd o ≠ 0 ∧ kd o1 = kd o) ∨ (kd o = 9 ∧ kd o1 = 9)) (e2 : o2 = o1 ∨ (c ∈ A ∧ kd o1 ≠ 0 ∧ kd o2 = kd o1) ∨ (kd o1 = 9 ∧ kd o2 = 9)) : o2 = o ∨ (c ∈ A0 ∧ kd o ≠ 0 ∧ kd o2 = kd o) ∨ (kd o = 9 ∧ kd o2 = 9) := by
  rcases e1 with rfl | ⟨m, k, q⟩ | ⟨k, q⟩
  · rcases e2 with rfl | ⟨m, k, q⟩ | z
    · exact .inl rfl
    · exact .inr (.inl ⟨n m, k, q⟩)
    · exact .inr (.inr z)
  · rcases e2 with rfl | ⟨_, _, q2⟩ | ⟨k1, k2⟩
    · exact .inr (.inl ⟨m, k, q⟩)
    · exact .inr (.inl ⟨m, k, q2.trans q⟩)
    · exact .inr (.inr ⟨q.symm.trans k1, k2⟩)
  · rcases e2 with rfl | ⟨_, _, q2⟩ | ⟨_, k2⟩
    · exact .inr (.inr ⟨k, q⟩)
    · exact .inr (.inr ⟨k, q2.trans q⟩)
    · exact .inr (.inr ⟨k, k2⟩)
theorem Gr.trans {A : List Addr} {H H1 H2 : Hp} (a : Gr A H H1) (b : Gr A H1 H2) : Gr A H H2 := ⟨fun c o h => by
  obtain ⟨o1, h1, e1⟩ := a.ob c o h
  obtain ⟨o2, h2, e2⟩ := b.ob c o1 h1
  exact ⟨o2, h2, gr_two id e1 e2⟩, fun P h => b.tb P (a.tb P h)⟩
theorem Gr.mono {A B : List Addr} {H H1 : Hp} (a : Gr A H H1) (s : ∀ x ∈ A, x ∈ B) : Gr B H H1 := ⟨fun c o h =>
  let ⟨o', h1, h2⟩ := a.ob c o h
  ⟨o', h1, h2.imp id fun z => z.imp (fun ⟨m, k⟩ => ⟨s c m, k⟩) id⟩, a.tb⟩
theorem Gr.of0 {B : List Addr} {H H1 : Hp} (a : Gr [] H H1) : Gr B H H1 := a.mono fun _ z => absurd z (by simp)
theorem Gr.of0' {B : List Addr} {H H1 H2 : Hp} (a : Gr B H H1) (b : Gr [] H1 H2) : Gr B H H2 := a.trans b.of0
/-- some changed objects at once; those that are new since H don't count -/
theorem Gr.many {A A0 : List Addr} {H0 H H' : Hp} (a : Gr A0 H0 H) (n : ∀ p ∈ A, p ∈ A0 ∨ H0 p = none) (b : Gr A H H') : Gr A0 H0 H' := ⟨fun c o h => by
  obtain ⟨o1, h1, e1⟩ := a.ob c o h
  obtain ⟨o2, h2, e2⟩ := b.ob c o1 h1
  exact ⟨o2, h2, gr_two (fun m => (n c m).elim id fun z => by
      rw [z] at h
      cases h) e1 e2⟩, fun P h => b.tb P (a.tb P h)⟩
/-- a change at an address that is new since H -/
theorem Gr.loc {A : List Addr} {p : Addr} {H H1 H2 : Hp} (a : Gr A H H1) (n : H p = none) (b : Gr [p] H1 H2) : Gr A H H2 := a.many (fun q m => .inr (by
  have e : q = p := by simpa using m
  exact e ▸ n)) b
theorem Gr.at1 {A : List Addr} {p : Addr} {H H1 H2 : Hp} (a : Gr A H H1) (m : p ∈ A) (b : Gr [p] H1 H2) : Gr A H H2 := a.trans (b.mono fun x z => by
  have e : x = p := by simpa using z
  exact e ▸ m)
theorem tabN_upd {nm : Nat → Nat → Str} {H : Hp} {p P : Addr} {o : HO} (n : ∀ u, H p = some u → (∀ ps, u ≠ .tbl ps) ∧ ∀ c q, u ≠ LamX.CodeO c q) (h : NdefX.TabN H P nm) : NdefX.TabN (upd H p o) P nm := by
  obtain ⟨ps, h1, h2, h3⟩ := h
  refine ⟨ps, ?_, h2, fun pos cv hc => ?_⟩
  · rw [upd_ne fun z => ?_]
    · exact h1
    · subst z
      exact (n _ h1).1 ps rfl
  · obtain ⟨c, e1, e2⟩ := h3 pos cv hc
    refine ⟨c, e1, ?_⟩
    rw [upd_ne fun z => ?_]
    · exact e2
    · subst z
      exact (n _ e2).2 c _ rfl
theorem Gr.new {A : List Addr} {H : Hp} {p : Addr} {o : HO} (n : H p = none) : Gr A H (upd H p o) := ⟨fun c u h => ⟨u, by
  rw [upd_ne (ne_of_none h n)]
  exact h, .inl rfl⟩, fun P h => tabN_upd (fun u z => by
    rw [n] at z
    cases z) h⟩
theorem Gr.setK {H : Hp} {p : Addr} {o o' : HO} (h : H p = some o') (k : kd o' ≠ 0) (t : kd o' ≠ 9) (e : kd o = kd o') : Gr [p] H (upd H p o) := ⟨fun c u q => by
  by_cases z : c = p
  · subst z
    rw [h] at q
    cases q
    exact ⟨o, upd_same, .inr (.inl ⟨by simp, k, e⟩)⟩
  · exact ⟨u, by rw [upd_ne z]; exact q, .inl rfl⟩, fun P hT => tabN_upd (fun u z => by
    rw [h] at z
    cases z
    refine ⟨fun ps e => ?_, fun c q e => ?_⟩
    · subst e
      exact t rfl
    · subst e
      exact k kd_code) hT⟩
theorem Gr.set {H : Hp} {p : Addr} {ys xs : List V} (h : H p = some (.lst xs)) : Gr [p] H (upd H p (.lst ys)) := Gr.setK h (by show 1 ≠ 0; decide) (by show 1 ≠ 9; decide) rfl
theorem Gr.free {A : List Addr} {H H' : Hp} (e : Gr A H H') {l : Addr} (h : H' l = Option.none) : H l = Option.none := by
  cases r : H l with
  | none => rfl
  | some o =>
    obtain ⟨o', h1, _⟩ := e.ob l o r
    rw [h] at h1
    cases h1
/-! ### what stands for a datum -/
abbrev Rp (α : Type) := Hp → α → V → Prop
/-- what never changes is as it was -/
def Im (H H' : Hp) : Prop := ∀ b o, H b = some o → kd o = 0 → H' b = some o
theorem Gr.im {A : List Addr} {H H' : Hp} (g : Gr A H H') : Im H H' := fun _ _ h k => g.to h (fun _ => k) (by rw [k]; decide)
class Imm {α : Type} (r : Rp α) : Prop where
  im : ∀ {H H' : Hp} {x : α} {v : V}, Im H H' → r H x v → r H' x v
theorem Imm.mono {α : Type} {r : Rp α} [Imm r] {A : List Addr} {H H' : Hp} {x : α} {v : V} (g : Gr A H H') (h : r H x v) : r H' x v := Imm.im g.im h
def rI : Rp Int := fun _ i v => v = .int i
def rB : Rp Bool := fun _ b v => v = .bl b
def rS : Rp Str := fun _ x v => v = .str x
def rN : Rp Unit := fun _ _ v => v = .non
instance : Imm rI := ⟨fun _ h => h⟩
instance : Imm rB := ⟨fun _ h => h⟩
instance : Imm rS := ⟨fun _ h => h⟩
instance : Imm rN := ⟨fun _ h => h⟩
def rO {α : Type} (r : Rp α) : Rp (Option α) := fun H o v => match o with
  | none => v = .non
  | some a => v ≠ .non ∧ r H a v
instance {α : Type} {r : Rp α} [Imm r] : Imm (rO r) := ⟨fun {H H' x v} g h => by
  cases x with
  | none => exact h
  | some a => exact ⟨h.1, Imm.im g h.2⟩⟩
theorem Paired.im {α : Type} {r : Rp α} [Imm r] {H H' : Hp} {xs : List α} {vs : List V} (g : Im H H') (h : Paired (r H) xs vs) : Paired (r H') xs vs := Paired.mapP h fun _ _ q => Imm.im g q
theorem Im.tup {K : PySem.W.Frag} {H H' : Hp} {a : Addr} {xs : List V} (g : Im H H') (h : SqT K H a xs) : SqT K H' a xs := by
  rcases h with (h | ⟨o, h⟩) | h
  · exact .inl (.inl (g _ _ h rfl))
  · exact .inl (.inr ⟨o, g _ _ h rfl⟩)
  · exact .inr h
theorem Paired.imm {α : Type} {r : Rp α} [Imm r] {A : List Addr} {H H' : Hp} {xs : List α} {vs : List V} (g : Gr A H H') (h : Paired (r H) xs vs) : Paired (r H') xs vs := Paired.mapP h fun _ _ q => Imm.mono g q
def Ls {α : Type} (r : Rp α) (H : Hp) (a : Addr) (xs : List α) : Prop := ∃ vs, H a = some (.lst vs) ∧ Paired (r H) xs vs
def Lq {α : Type} (K : PySem.W.Frag) (r : Rp α) (H : Hp) (a : Addr) (xs : List α) : Prop := ∃ vs, SqL K H a vs ∧ Paired (r H) xs vs
def Tq {α : Type} (K : PySem.W.Frag) (r : Rp α) (H : Hp) (a : Addr) (xs : List α) : Prop := ∃ vs, SqT K H a vs ∧ Paired (r H) xs vs
def rT {α : Type} (K : PySem.W.Frag) (r : Rp α) : Rp (List α) := fun H xs v => ∃ a, v = .ref a ∧ Tq K r H a xs
def rP {α β : Type} (K : PySem.W.Frag) (r : Rp α) (s : Rp β) : Rp (α × β) := fun H p v => ∃ a x y, v = .ref a ∧ SqT K H a [x, y] ∧ r H p.1 x ∧ s H p.2 y
def rP3 {α β γ : Type} (K : PySem.W.Frag) (r : Rp α) (s : Rp β) (t : Rp γ) : Rp (α × β × γ) := fun H p v => ∃ a x y z, v = .ref a ∧ SqT K H a [x, y, z] ∧ r H p.1 x ∧ s H p.2.1 y ∧ t H p.2.2 z
theorem Gr.tup {K : PySem.W.Frag} {A : List Addr} {H H' : Hp} {a : Addr} {xs : List V} (g : Gr A H H') (h : SqT K H a xs) : SqT K H' a xs := by
  rcases h with (h | ⟨o, h⟩) | h
  · exact .inl (.inl (g.to h (fun _ => rfl) nofun))
  · exact .inl (.inr ⟨o, g.to h (fun _ => rfl) nofun⟩)
  · exact .inr h
theorem Gr.lst {K : PySem.W.Frag} {A : List Addr} {H H' : Hp} {a : Addr} {xs : List V} (g : Gr A H H') (n : a ∉ A) (h : SqL K H a xs) : SqL K H' a xs := by
  rcases h with (h | ⟨o, h⟩) | h
  · exact .inl (.inl (g.to h (fun m => absurd m n) nofun))
  · exact .inl (.inr ⟨o, g.to h (fun _ => rfl) nofun⟩)
  · exact .inr h
section
variable {α β γ : Type} {K : PySem.W.Frag} {r : Rp α} {s : Rp β} {t : Rp γ} {A : List Addr} {H H' : Hp} {a p : Addr} {xs : List α}
theorem Tq.mono [Imm r] (g : Gr A H H') (h : Tq K r H a xs) : Tq K r H' a xs := let ⟨vs, h1, h2⟩ := h; ⟨vs, g.tup h1, Paired.imm g h2⟩
instance [Imm r] : Imm (rT K r) := ⟨fun g ⟨a, e, vs, h1, h2⟩ => ⟨a, e, vs, g.tup h1, Paired.im g h2⟩⟩
instance [Imm r] [Imm s] : Imm (rP K r s) := ⟨fun g ⟨a, x, y, e, h, h1, h2⟩ => ⟨a, x, y, e, g.tup h, Imm.im g h1, Imm.im g h2⟩⟩
instance [Imm r] [Imm s] [Imm t] : Imm (rP3 K r s t) := ⟨fun g ⟨a, x, y, z, e, h, h1, h2, h3⟩ => ⟨a, x, y, z, e, g.tup h, Imm.im g h1, Imm.im g h2, Imm.im g h3⟩⟩
theorem Ls.q (h : Ls r H a xs) : Lq K r H a xs := let ⟨vs, h1, h2⟩ := h; ⟨vs, SqL.of h1, h2⟩
theorem Ls.g0 [Imm r] (g : Gr [] H H') (h : Ls r H a xs) : Ls r H' a xs := let ⟨vs, h1, h2⟩ := h; ⟨vs, g.to h1 (fun m => absurd m (by simp)) nofun, Paired.imm g h2⟩
theorem Ls.g1 [Imm r] (g : Gr [p] H H') (n : a ≠ p) (h : Ls r H a xs) : Ls r H' a xs := let ⟨vs, h1, h2⟩ := h; ⟨vs, g.to h1 (fun m => absurd (by simpa using m) n) nofun, Paired.imm g h2⟩
theorem Ls.gA [Imm r] (g : Gr A H H') (n : a ∉ A) (h : Ls r H a xs) : Ls r H' a xs := let ⟨vs, h1, h2⟩ := h; ⟨vs, g.to h1 (fun m => absurd m n) nofun, Paired.imm g h2⟩
theorem Lq.g0 [Imm r] (g : Gr [] H H') (h : Lq K r H a xs) : Lq K r H' a xs := let ⟨vs, h1, h2⟩ := h; ⟨vs, g.lst (by simp) h1, Paired.imm g h2⟩
theorem Lq.gA [Imm r] (g : Gr A H H') (n : a ∉ A) (h : Lq K r H a xs) : Lq K r H' a xs := let ⟨vs, h1, h2⟩ := h; ⟨vs, g.lst n h1, Paired.imm g h2⟩
theorem Ls.ne (h : Ls r H a xs) (n : H p = none) : a ≠ p := let ⟨_, h1, _⟩ := h; ne_of_none h1 n
theorem Ls.some (h : Ls r H a xs) : ∃ vs, H a = some (.lst vs) := let ⟨vs, h1, _⟩ := h; ⟨vs, h1⟩
/-! ### displays, items, changes -/
variable {Q : VK} {E : Er → Prop}
/-- a new tuple, a new list -/
def aTup (xs : List V) (H : Hp) (Q : VK) : Prop := xs.length ≤ sizeLine ∧ ∀ p, H p = none → Q (.ref p) (upd H p (.tup xs))
def aLst (xs : List V) (H : Hp) (Q : VK) : Prop := xs.length ≤ sizeLine ∧ ∀ p, H p = none → Q (.ref p) (upd H p (.lst xs))
/-- a call's reading, held together -/
def ap3 (r : List V → Hp → VK → Prop) (vs : List V) (H : Hp) (Q : VK) : Prop := r vs H Q
theorem mk_P [Imm r] [Imm s] {x y : V} {a : α} {b : β} (hx : r H a x) (hy : s H b y) (q : ∀ v H', Gr [] H H' → rP K r s H' (a, b) v → Q v H') : aTup [x, y] H Q :=
  ⟨by show 2 ≤ sizeLine; decide, fun p n => q _ _ (Gr.new n) ⟨p, x, y, rfl, SqT.of upd_same, Imm.mono (Gr.new (A := []) n) hx, Imm.mono (Gr.new (A := []) n) hy⟩⟩
theorem mk_P3 [Imm r] [Imm s] [Imm t] {x y z : V} {a : α} {b : β} {c : γ} (hx : r H a x) (hy : s H b y) (hz : t H c z) (q : ∀ v H', Gr [] H H' → rP3 K r s t H' (a, b, c) v → Q v H') : aTup [x, y, z] H Q :=
  ⟨by show 3 ≤ sizeLine; decide, fun p n => q _ _ (Gr.new n) ⟨p, x, y, z, rfl, SqT.of upd_same, Imm.mono (Gr.new (A := []) n) hx, Imm.mono (Gr.new (A := []) n) hy, Imm.mono (Gr.new (A := []) n) hz⟩⟩
theorem mk_T [Imm r] {vs : List V} (h : Paired (r H) xs vs) (l : vs.length ≤ sizeLine) (q : ∀ v H', Gr [] H H' → rT K r H' xs v → Q v H') : aTup vs H Q :=
  ⟨l, fun p n => q _ _ (Gr.new n) ⟨p, rfl, vs, SqT.of upd_same, Paired.imm (Gr.new (A := []) n) h⟩⟩
theorem mk_L [Imm r] {vs : List V} (h : Paired (r H) xs vs) (l : vs.length ≤ sizeLine) (q : ∀ p H', H p = none → Gr [] H H' → Ls r H' p xs → Q (.ref p) H') : aLst vs H Q :=
  ⟨l, fun p n => q _ _ n (Gr.new n) ⟨vs, upd_same, Paired.imm (Gr.new (A := []) n) h⟩⟩
def lenOk {α : Type} (xs : List α) : Prop := xs.length ≤ sizeLine
instance {α : Type} (xs : List α) : Decidable (lenOk xs) := inferInstanceAs (Decidable (_ ≤ _))
def lenLt {α : Type} (xs : List α) : Prop := xs.length < sizeLine
instance {α : Type} (xs : List α) : Decidable (lenLt xs) := inferInstanceAs (Decidable (_ < _))
theorem Paired.app {r : α → V → Prop} : ∀ {xs ys : List α} {vs ws : List V}, Paired r xs vs → Paired r ys ws → Paired r (xs ++ ys) (vs ++ ws)
  | _, _, _, _, .nil, s => s
  | _, _, _, _, .cons r t, s => .cons r (Paired.app t s)
theorem rd_append [Imm r] {y : V} {x : α} (h : Ls r H a xs) (hy : r H x y) (l : lenLt xs) (q : ∀ H', Gr [a] H H' → Ls r H' a (xs ++ [x]) → Q .non H') : rAppend (.ref a) [y] H Q := by
  obtain ⟨vs, h1, h2⟩ := h
  refine ⟨a, vs, y, rfl, rfl, h1, by rw [← Paired.length h2]; exact l, q _ (Gr.set h1) ⟨_, upd_same, ?_⟩⟩
  exact Paired.app (Paired.imm (Gr.set h1) h2) (.cons (Imm.mono (Gr.set h1) hy) .nil)
/-- an item by its place -/
def getL {α : Type} (xs : List α) (i : Int) : R α := match atI xs i with
  | some x => .ok x
  | none => .out
theorem Paired.at {r : α → V → Prop} : ∀ {xs : List α} {vs : List V} {i : Nat} {x : α}, Paired r xs vs → xs[i]? = some x → ∃ v, vs[i]? = some v ∧ r x v
  | _, _, _, _, .nil, e => by simp at e
  | _, _, 0, _, .cons h _, e => by
    simp at e
    subst e
    exact ⟨_, rfl, h⟩
  | _, _, i + 1, _, .cons _ t, e => by
    obtain ⟨v, h1, h2⟩ := Paired.at (i := i) t (by simpa using e)
    exact ⟨v, by simpa using h1, h2⟩
theorem getL_at {r : α → V → Prop} {vs : List V} {i : Int} {Z : α → Prop} (h : Paired r xs vs) (hm : wp (getL xs i) Z E) : ∃ x v, atI vs i = some v ∧ r x v ∧ Z x := by
  unfold getL at hm
  cases e : atI xs i with
  | none =>
    rw [e] at hm
    exact hm.elim
  | some x =>
    rw [e] at hm
    unfold atI at e
    cases e2 : ixN xs.length i with
    | none =>
      rw [e2] at e
      cases e
    | some j =>
      rw [e2] at e
      obtain ⟨v, h1, h2⟩ := Paired.at h (show xs[j]? = some x from e)
      refine ⟨x, v, ?_, h2, hm⟩
      unfold atI
      rw [← Paired.length h, e2]
      exact h1
theorem ix_L {i : Int} {Z : α → Prop} (h : Lq K r H a xs) (hm : wp (getL xs i) Z E) (q : ∀ x v, r H x v → Z x → Q v H) : rIxL K (.ref a) (.int i) H Q := by
  obtain ⟨vs, h1, h2⟩ := h
  obtain ⟨x, v, e, hr, hz⟩ := getL_at h2 hm
  exact ⟨a, vs, i, v, rfl, rfl, h1, e, q x v hr hz⟩
theorem ix_T {i : Int} {Z : α → Prop} {v : V} (h : rT K r H xs v) (hm : wp (getL xs i) Z E) (q : ∀ x v, r H x v → Z x → Q v H) : rIxT K v (.int i) H Q := by
  obtain ⟨a, rfl, vs, h1, h2⟩ := h
  obtain ⟨x, v, e, hr, hz⟩ := getL_at h2 hm
  exact ⟨a, vs, i, v, rfl, rfl, h1, e, q x v hr hz⟩
/-- an item changed -/
def setL {α : Type} (xs : List α) (i : Int) (x : α) : R (List α) := match ixN xs.length i with
  | some j => .ok (xs.set j x)
  | none => .out
theorem Paired.set {r : α → V → Prop} {x : α} {v : V} (h : r x v) : ∀ {xs : List α} {vs : List V} (i : Nat), Paired r xs vs → Paired r (xs.set i x) (vs.set i v)
  | _, _, _, .nil => .nil
  | _, _, 0, .cons _ t => .cons h t
  | _, _, i + 1, .cons q t => .cons q (Paired.set h i t)
theorem rd_set [Imm r] {i : Int} {y : V} {x : α} {Z : List α → Prop} {Q : Hp → Prop} (h : Ls r H a xs) (hy : r H x y) (hm : wp (setL xs i x) Z E) (q : ∀ ys H', Gr [a] H H' → Ls r H' a ys → Z ys → Q H') : rSetL (.ref a) (.int i) y H Q := by
  obtain ⟨vs, h1, h2⟩ := h
  unfold setL at hm
  cases e : ixN xs.length i with
  | none =>
    rw [e] at hm
    exact hm.elim
  | some j =>
    rw [e] at hm
    exact ⟨a, vs, i, j, rfl, rfl, h1, by rw [← Paired.length h2]; exact e, q _ _ (Gr.set h1) ⟨_, upd_same, Paired.set (Imm.mono (Gr.set h1) hy) j (Paired.imm (Gr.set h1) h2)⟩ hm⟩
theorem cat_L [Imm r] {b : Addr} {ys : List α} (h : Ls r H a xs) (h' : Ls r H b ys) (l : lenOk (xs ++ ys)) (q : ∀ p H', H p = none → Gr [] H H' → Ls r H' p (xs ++ ys) → Q (.ref p) H') : rCat (.ref a) (.ref b) H Q := by
  obtain ⟨vs, h1, h2⟩ := h
  obtain ⟨ws, h3, h4⟩ := h'
  refine ⟨a, b, vs, ws, rfl, rfl, h1, h3, ?_, fun p n => q _ _ n (Gr.new n) ⟨_, upd_same, Paired.app (Paired.imm (Gr.new (A := []) n) h2) (Paired.imm (Gr.new (A := []) n) h4)⟩⟩
  rw [← Paired.length h2, ← Paired.length h4, ← List.length_append]
  exact l
theorem len_L (h : Lq K r H a xs) (q : Q (.int xs.length) H) : ap3 (fun vs H Q => ∃ p ys, vs = [V.ref p] ∧ (SqL K H p ys ∨ SqT K H p ys) ∧ Q (.int ys.length) H) [.ref a] H Q := by
  obtain ⟨vs, h1, h2⟩ := h
  exact ⟨a, vs, rfl, .inl h1, by rw [← Paired.length h2]; exact q⟩
theorem len_T {v : V} (h : rT K r H xs v) (q : Q (.int xs.length) H) : ap3 (fun vs H Q => ∃ p ys, vs = [V.ref p] ∧ (SqL K H p ys ∨ SqT K H p ys) ∧ Q (.int ys.length) H) [v] H Q := by
  obtain ⟨a, rfl, vs, h1, h2⟩ := h
  exact ⟨a, vs, rfl, .inr h1, by rw [← Paired.length h2]; exact q⟩
theorem tup_of_L [Imm r] (h : Lq K r H a xs) (q : ∀ v H', Gr [] H H' → rT K r H' xs v → Q v H') : ap3 (fun vs H Q => ∃ p ys, vs = [V.ref p] ∧ ((SqL K H p ys ∧ ∀ l, H l = none → Q (.ref l) (upd H l (.tup ys))) ∨ (SqT K H p ys ∧ Q (.ref p) H))) [.ref a] H Q := by
  obtain ⟨vs, h1, h2⟩ := h
  exact ⟨a, vs, rfl, .inl ⟨h1, fun l n => q _ _ (Gr.new n) ⟨l, rfl, vs, SqT.of upd_same, Paired.imm (Gr.new (A := []) n) h2⟩⟩⟩
theorem lst_of_T [Imm r] {v : V} (h : rT K r H xs v) (q : ∀ p H', H p = none → Gr [] H H' → Ls r H' p xs → Q (.ref p) H') : ap3 (fun vs H Q => ∃ p ys, vs = [V.ref p] ∧ (SqL K H p ys ∨ SqT K H p ys) ∧ ∀ l, H l = none → Q (.ref l) (upd H l (.lst ys))) [v] H Q := by
  obtain ⟨a, rfl, vs, h1, h2⟩ := h
  exact ⟨a, vs, rfl, .inr h1, fun l n => q _ _ n (Gr.new n) ⟨vs, upd_same, Paired.imm (Gr.new (A := []) n) h2⟩⟩
theorem Paired.take {r : α → V → Prop} : ∀ {xs : List α} {vs : List V} (n : Nat), Paired r xs vs → Paired r (xs.take n) (vs.take n)
  | _, _, 0, _ => .nil
  | _, _, _ + 1, .nil => .nil
  | _, _, n + 1, .cons h t => .cons h (Paired.take n t)
theorem Paired.drop {r : α → V → Prop} : ∀ {xs : List α} {vs : List V} (n : Nat), Paired r xs vs → Paired r (xs.drop n) (vs.drop n)
  | _, _, 0, h => h
  | _, _, _ + 1, .nil => .nil
  | _, _, n + 1, .cons _ t => Paired.drop n t
def cutT {α : Type} (xs : List α) (lo hi : Option Int) : List α := (xs.drop (HT.sIx xs.length 0 lo)).take (HT.sIx xs.length xs.length hi - HT.sIx xs.length 0 lo)
theorem cut_L [Imm r] {lo hi : Option Int} (h : Lq K r H a xs) (q : ∀ p H', H p = none → Gr [] H H' → Ls r H' p (cutT xs lo hi) → Q (.ref p) H') : rSlL K (.ref a) lo hi H Q := by
  obtain ⟨vs, h1, h2⟩ := h
  refine ⟨a, vs, rfl, h1, fun p n => q _ _ n (Gr.new n) ⟨_, upd_same, Paired.imm (Gr.new (A := []) n) ?_⟩⟩
  unfold cutT cutV
  rw [← Paired.length h2]
  exact Paired.take _ (Paired.drop _ h2)
theorem ints_of {ns : List Int} {vs : List V} (h : Paired (rI H) ns vs) : vs = ns.map V.int := by
  induction h with
  | nil => rfl
  | cons h _ ih => rw [ih, show _ = V.int _ from h] <;> rfl
theorem of_ints {ns : List Int} : Paired (rI H) ns (ns.map V.int) := by
  induction ns with
  | nil => exact .nil
  | cons n ns ih => exact .cons rfl ih
end

/-! ### turns of loops -/
section
variable {σt ρ α : Type} {E : Er → Prop} {g : TG} {tb : TS} {D : Ends} {σ : L2.St} {H : Hp} {K : PySem.W.Frag} {a : Addr} {lo : Int} {n : Nat} {r : Rp α} {xs : List α} {s0 : σt}
theorem Paired.get2 {r : α → V → Prop} : ∀ {l₁ : List α} {l₂ : List V} {i : Nat} {v : V}, Paired r l₁ l₂ → l₂[i]? = some v → ∀ h : i < l₁.length, r l₁[i] v
  | _, _, _, _, .nil, _, h => absurd h (Nat.not_lt_zero _)
  | _, _, 0, _, .cons p _, e, _ => Option.some.inj e ▸ p
  | _, _, i + 1, _, .cons _ t, e, h => Paired.get2 (i := i) t e (Nat.lt_of_succ_lt_succ h)
theorem foldR_step {f : σt → α → R σt} {s : σt} {i : Nat} (h : i < xs.length) {P : σt → Prop} (hw : wp (foldR f s (xs.drop i)) P E) : wp (f s xs[i]) (fun s' => wp (foldR f s' (xs.drop (i + 1))) P E) E := by
  rw [List.drop_eq_getElem_cons h] at hw
  exact wp_bind (m := f s xs[i]) (f := fun s' => foldR f s' (xs.drop (i + 1))) hw
theorem foldR_end {f : σt → α → R σt} {s : σt} {i : Nat} (h : xs.length ≤ i) {P : σt → Prop} (hw : wp (foldR f s (xs.drop i)) P E) : P s := by
  rw [List.drop_of_length_le h] at hw
  exact hw
theorem loopR_step {f : σt → α → R (Lp σt ρ)} {s : σt} {i : Nat} (h : i < xs.length) {dn : σt → Prop} {rt : ρ → Prop} (hw : wp (loopR f s (xs.drop i)) (leP dn rt) E) : wp (f s xs[i]) (lpP (fun s' => wp (loopR f s' (xs.drop (i + 1))) (leP dn rt) E) dn rt) E := by
  rw [List.drop_eq_getElem_cons h] at hw
  have hw := wp_bind (m := f s xs[i]) (f := fun o => match o with
    | .nx s' => loopR f s' (xs.drop (i + 1))
    | .bk s' => .ok (.dn s')
    | .rt r => .ok (.rt r)) hw
  refine wp_imp hw (fun o ho => ?_) fun _ e => e
  cases o with
  | nx s' => exact ho
  | bk s' => exact ho
  | rt r => exact ho
theorem loopR_end {f : σt → α → R (Lp σt ρ)} {s : σt} {i : Nat} (h : xs.length ≤ i) {dn : σt → Prop} {rt : ρ → Prop} (hw : wp (loopR f s (xs.drop i)) (leP dn rt) E) : dn s := by
  rw [List.drop_of_length_le h] at hw
  exact hw
theorem rng_get (lo : Int) : ∀ (n i : Nat) (h : i < (rng lo n).length), (rng lo n)[i] = lo + i := by
  intro n
  induction n generalizing lo with
  | zero => intro i h; exact absurd h (Nat.not_lt_zero _)
  | succ n ih =>
    intro i h
    cases i with
    | zero =>
      show lo = lo + ((0 : Nat) : Int)
      omega
    | succ i =>
      have := ih (lo + 1) i (Nat.lt_of_succ_lt_succ h)
      show (rng (lo + 1) n)[i]'(Nat.lt_of_succ_lt_succ h) = lo + ((i + 1 : Nat) : Int)
      rw [this]
      omega

theorem for_rngR {f : σt → Int → R σt} (rel : σt → L2.St → Hp → Prop)
    (hm : wp (foldR f s0 (rng lo n)) (fun s => ∀ σ H, rel s σ H → D.nx σ H) E) (h0 : rel s0 σ H)
    (hs : ∀ (x : Int) (s : σt) (σ : L2.St) (H : Hp) (N : L2.St → Hp → Prop), rel s σ H → wp (f s x) (fun s' => ∀ σ' H', rel s' σ' H' → N σ' H') E →
      g (.int x) σ H fun σ2 H2 => tb { D with nx := N, ct := N, bk := D.nx } σ2 H2) :
    ∃ W : Nat → Nat → L2.St → Hp → Prop, (∃ m, W 0 m σ H) ∧ ∀ i m σ H, W i m σ H →
      ((Itr lo n).stop i H ∧ D.nx σ H) ∨ ((Itr lo n).go i H ∧ ∃ N : L2.St → Hp → Prop, (∀ σ' H', N σ' H' → ∃ m', m' < m ∧ W (i + 1) m' σ' H') ∧ ∀ x H', (Itr lo n).yld i H x H' → g x σ H' fun σ2 H2 => tb { D with nx := N, ct := N, bk := D.nx } σ2 H2) := by
  refine for_range (lo := lo) (n := n) (fun i σ H => ∃ s, rel s σ H ∧ wp (foldR f s ((rng lo n).drop i)) (fun s => ∀ σ H, rel s σ H → D.nx σ H) E) ⟨s0, h0, hm⟩ ?_ ?_
  · rintro i σ H hi ⟨s, hr, hw⟩
    have hi' : i < (rng lo n).length := by rw [rng_length]; exact hi
    have hw := foldR_step hi' hw
    rw [rng_get lo n i hi'] at hw
    exact hs (lo + i) s σ H _ hr (wp_imp hw (fun s' hs' => fun σ' H' r' => ⟨s', r', hs'⟩) fun _ e => e)
  · rintro σ H ⟨s, hr, hw⟩
    exact foldR_end (by rw [rng_length]; exact Nat.le_refl _) hw σ H hr

theorem for_rngL {f : σt → Int → R (Lp σt ρ)} {RT : ρ → Prop} (rel : σt → L2.St → Hp → Prop)
    (hm : wp (loopR f s0 (rng lo n)) (leP (fun s => ∀ σ H, rel s σ H → D.nx σ H) RT) E) (h0 : rel s0 σ H)
    (hs : ∀ (x : Int) (s : σt) (σ : L2.St) (H : Hp) (N : L2.St → Hp → Prop), rel s σ H → wp (f s x) (lpP (fun s' => ∀ σ' H', rel s' σ' H' → N σ' H') (fun s' => ∀ σ' H', rel s' σ' H' → D.nx σ' H') RT) E →
      g (.int x) σ H fun σ2 H2 => tb { D with nx := N, ct := N, bk := D.nx } σ2 H2) :
    ∃ W : Nat → Nat → L2.St → Hp → Prop, (∃ m, W 0 m σ H) ∧ ∀ i m σ H, W i m σ H →
      ((Itr lo n).stop i H ∧ D.nx σ H) ∨ ((Itr lo n).go i H ∧ ∃ N : L2.St → Hp → Prop, (∀ σ' H', N σ' H' → ∃ m', m' < m ∧ W (i + 1) m' σ' H') ∧ ∀ x H', (Itr lo n).yld i H x H' → g x σ H' fun σ2 H2 => tb { D with nx := N, ct := N, bk := D.nx } σ2 H2) := by
  refine for_range (lo := lo) (n := n) (fun i σ H => ∃ s, rel s σ H ∧ wp (loopR f s ((rng lo n).drop i)) (leP (fun s => ∀ σ H, rel s σ H → D.nx σ H) RT) E) ⟨s0, h0, hm⟩ ?_ ?_
  · rintro i σ H hi ⟨s, hr, hw⟩
    have hi' : i < (rng lo n).length := by rw [rng_length]; exact hi
    have hw := loopR_step hi' hw
    rw [rng_get lo n i hi'] at hw
    exact hs (lo + i) s σ H _ hr (wp_imp hw (fun s' hs' => (by
      cases s' with
      | nx s' => exact fun σ' H' r' => ⟨s', r', hs'⟩
      | bk s' => exact hs'
      | rt r => exact hs')) fun _ e => e)
  · rintro σ H ⟨s, hr, hw⟩
    exact loopR_end (by rw [rng_length]; exact Nat.le_refl _) hw σ H hr

theorem for_lstR {f : σt → α → R σt} (rel : σt → L2.St → Hp → Prop) {vs : List V} {H0 : Hp} (hp : Paired (r H0) xs vs)
    (hm : wp (foldR f s0 xs) (fun s => ∀ σ H, rel s σ H → D.nx σ H) E) (h0 : rel s0 σ H) (hl : ∀ s σ H, rel s σ H → SqL K H a vs)
    (hs : ∀ (x : α) (v : V) (s : σt) (σ : L2.St) (H : Hp) (N : L2.St → Hp → Prop), r H0 x v → rel s σ H → wp (f s x) (fun s' => ∀ σ' H', rel s' σ' H' → N σ' H') E →
      g v σ H fun σ2 H2 => tb { D with nx := N, ct := N, bk := D.nx } σ2 H2) :
    ∃ W : Nat → Nat → L2.St → Hp → Prop, (∃ m, W 0 m σ H) ∧ ∀ i m σ H, W i m σ H →
      ((Itl K a).stop i H ∧ D.nx σ H) ∨ ((Itl K a).go i H ∧ ∃ N : L2.St → Hp → Prop, (∀ σ' H', N σ' H' → ∃ m', m' < m ∧ W (i + 1) m' σ' H') ∧ ∀ x H', (Itl K a).yld i H x H' → g x σ H' fun σ2 H2 => tb { D with nx := N, ct := N, bk := D.nx } σ2 H2) := by
  refine for_list (K := K) (a := a) (xs := vs) (fun i σ H => ∃ s, rel s σ H ∧ wp (foldR f s (xs.drop i)) (fun s => ∀ σ H, rel s σ H → D.nx σ H) E) ⟨s0, h0, hm⟩ (fun i σ H _ ⟨s, hr, _⟩ => hl s σ H hr) ?_ ?_
  · rintro i v σ H hi ⟨s, hr, hw⟩
    have hi' : i < xs.length := by rw [Paired.length hp]; exact (List.getElem?_eq_some_iff.mp hi).1
    have hw := foldR_step hi' hw
    exact hs xs[i] v s σ H _ (Paired.get2 hp hi hi') hr (wp_imp hw (fun s' hs' => fun σ' H' r' => ⟨s', r', hs'⟩) fun _ e => e)
  · rintro σ H ⟨s, hr, hw⟩
    exact foldR_end (by rw [Paired.length hp]; exact Nat.le_refl _) hw σ H hr

theorem for_lstL {f : σt → α → R (Lp σt ρ)} {RT : ρ → Prop} (rel : σt → L2.St → Hp → Prop) {vs : List V} {H0 : Hp} (hp : Paired (r H0) xs vs)
    (hm : wp (loopR f s0 xs) (leP (fun s => ∀ σ H, rel s σ H → D.nx σ H) RT) E) (h0 : rel s0 σ H) (hl : ∀ s σ H, rel s σ H → SqL K H a vs)
    (hs : ∀ (x : α) (v : V) (s : σt) (σ : L2.St) (H : Hp) (N : L2.St → Hp → Prop), r H0 x v → rel s σ H → wp (f s x) (lpP (fun s' => ∀ σ' H', rel s' σ' H' → N σ' H') (fun s' => ∀ σ' H', rel s' σ' H' → D.nx σ' H') RT) E →
      g v σ H fun σ2 H2 => tb { D with nx := N, ct := N, bk := D.nx } σ2 H2) :
    ∃ W : Nat → Nat → L2.St → Hp → Prop, (∃ m, W 0 m σ H) ∧ ∀ i m σ H, W i m σ H →
      ((Itl K a).stop i H ∧ D.nx σ H) ∨ ((Itl K a).go i H ∧ ∃ N : L2.St → Hp → Prop, (∀ σ' H', N σ' H' → ∃ m', m' < m ∧ W (i + 1) m' σ' H') ∧ ∀ x H', (Itl K a).yld i H x H' → g x σ H' fun σ2 H2 => tb { D with nx := N, ct := N, bk := D.nx } σ2 H2) := by
  refine for_list (K := K) (a := a) (xs := vs) (fun i σ H => ∃ s, rel s σ H ∧ wp (loopR f s (xs.drop i)) (leP (fun s => ∀ σ H, rel s σ H → D.nx σ H) RT) E) ⟨s0, h0, hm⟩ (fun i σ H _ ⟨s, hr, _⟩ => hl s σ H hr) ?_ ?_
  · rintro i v σ H hi ⟨s, hr, hw⟩
    have hi' : i < xs.length := by rw [Paired.length hp]; exact (List.getElem?_eq_some_iff.mp hi).1
    have hw := loopR_step hi' hw
    exact hs xs[i] v s σ H _ (Paired.get2 hp hi hi') hr (wp_imp hw (fun s' hs' => (by
      cases s' with
      | nx s' => exact fun σ' H' r' => ⟨s', r', hs'⟩
      | bk s' => exact hs'
      | rt r => exact hs')) fun _ e => e)
  · rintro σ H ⟨s, hr, hw⟩
    exact loopR_end (by rw [Paired.length hp]; exact Nat.le_refl _) hw σ H hr

theorem for_tupR {f : σt → α → R σt} (rel : σt → L2.St → Hp → Prop) {vs : List V} {H0 : Hp} (hp : Paired (r H0) xs vs)
    (hm : wp (foldR f s0 xs) (fun s => ∀ σ H, rel s σ H → D.nx σ H) E) (h0 : rel s0 σ H) (hl : ∀ s σ H, rel s σ H → SqT K H a vs)
    (hs : ∀ (x : α) (v : V) (s : σt) (σ : L2.St) (H : Hp) (N : L2.St → Hp → Prop), r H0 x v → rel s σ H → wp (f s x) (fun s' => ∀ σ' H', rel s' σ' H' → N σ' H') E →
      g v σ H fun σ2 H2 => tb { D with nx := N, ct := N, bk := D.nx } σ2 H2) :
    ∃ W : Nat → Nat → L2.St → Hp → Prop, (∃ m, W 0 m σ H) ∧ ∀ i m σ H, W i m σ H →
      ((Itt K a).stop i H ∧ D.nx σ H) ∨ ((Itt K a).go i H ∧ ∃ N : L2.St → Hp → Prop, (∀ σ' H', N σ' H' → ∃ m', m' < m ∧ W (i + 1) m' σ' H') ∧ ∀ x H', (Itt K a).yld i H x H' → g x σ H' fun σ2 H2 => tb { D with nx := N, ct := N, bk := D.nx } σ2 H2) := by
  refine for_tup (K := K) (a := a) (xs := vs) (fun i σ H => ∃ s, rel s σ H ∧ wp (foldR f s (xs.drop i)) (fun s => ∀ σ H, rel s σ H → D.nx σ H) E) ⟨s0, h0, hm⟩ (fun i σ H _ ⟨s, hr, _⟩ => hl s σ H hr) ?_ ?_
  · rintro i v σ H hi ⟨s, hr, hw⟩
    have hi' : i < xs.length := by rw [Paired.length hp]; exact (List.getElem?_eq_some_iff.mp hi).1
    have hw := foldR_step hi' hw
    exact hs xs[i] v s σ H _ (Paired.get2 hp hi hi') hr (wp_imp hw (fun s' hs' => fun σ' H' r' => ⟨s', r', hs'⟩) fun _ e => e)
  · rintro σ H ⟨s, hr, hw⟩
    exact foldR_end (by rw [Paired.length hp]; exact Nat.le_refl _) hw σ H hr

/-- a while; N, W, m: handed on -/
theorem whl_R {c : TT} {cb : σt → R Bool} {f : σt → R σt} {n : Nat} (rel : σt → L2.St → Hp → Prop)
    (hm : wp (whileR cb f n s0) (fun s => ∀ σ H, rel s σ H → D.nx σ H) E) (h0 : rel s0 σ H)
    (hs : ∀ (s : σt) (σ : L2.St) (H : Hp) (N : L2.St → Hp → Prop) (W : Nat → L2.St → Hp → Prop) (m : Nat), (∀ σ' H', N σ' H' → ∃ m', m' < m ∧ W m' σ' H') → rel s σ H →
      wp (cb s) (fun b => if b = true then wp (f s) (fun s' => ∀ σ' H', rel s' σ' H' → N σ' H') E else ∀ σ H, rel s σ H → D.nx σ H) E →
      c σ H fun b H1 => if b = true then ∃ N : L2.St → Hp → Prop, (∀ σ' H', N σ' H' → ∃ m', m' < m ∧ W m' σ' H') ∧ tb { D with nx := N, ct := N, bk := D.nx } σ H1 else D.nx σ H1) : tWhile c tb D σ H := by
  refine ⟨fun m σ H => ∃ s, rel s σ H ∧ wp (whileR cb f m s) (fun s => ∀ σ H, rel s σ H → D.nx σ H) E, ⟨n, s0, h0, hm⟩, ?_⟩
  rintro m σ H ⟨s, hr, hw⟩
  cases m with
  | zero => exact hw.elim
  | succ m =>
    have hw := wp_bind (m := cb s) (f := fun b => if b = true then (f s).bind fun s' => whileR cb f m s' else .ok s) hw
    refine hs s σ H (fun σ' H' => ∃ s', rel s' σ' H' ∧ wp (whileR cb f m s') (fun s => ∀ σ H, rel s σ H → D.nx σ H) E) _ _ (fun σ' H' h => ⟨m, Nat.lt_succ_self _, h⟩) hr (wp_imp hw (fun b hb => ?_) fun _ e => e)
    cases b with
    | true => exact wp_imp (wp_bind hb) (fun s' hs' => fun σ' H' r' => ⟨s', r', hs'⟩) fun _ e => e
    | false => exact hb
theorem whl_L {c : TT} {cb : σt → R Bool} {f : σt → R (Lp σt ρ)} {n : Nat} {RT : ρ → Prop} (rel : σt → L2.St → Hp → Prop)
    (hm : wp (whileL cb f n s0) (leP (fun s => ∀ σ H, rel s σ H → D.nx σ H) RT) E) (h0 : rel s0 σ H)
    (hs : ∀ (s : σt) (σ : L2.St) (H : Hp) (N : L2.St → Hp → Prop) (W : Nat → L2.St → Hp → Prop) (m : Nat), (∀ σ' H', N σ' H' → ∃ m', m' < m ∧ W m' σ' H') → rel s σ H →
      wp (cb s) (fun b => if b = true then wp (f s) (lpP (fun s' => ∀ σ' H', rel s' σ' H' → N σ' H') (fun s' => ∀ σ' H', rel s' σ' H' → D.nx σ' H') RT) E else ∀ σ H, rel s σ H → D.nx σ H) E →
      c σ H fun b H1 => if b = true then ∃ N : L2.St → Hp → Prop, (∀ σ' H', N σ' H' → ∃ m', m' < m ∧ W m' σ' H') ∧ tb { D with nx := N, ct := N, bk := D.nx } σ H1 else D.nx σ H1) : tWhile c tb D σ H := by
  refine ⟨fun m σ H => ∃ s, rel s σ H ∧ wp (whileL cb f m s) (leP (fun s => ∀ σ H, rel s σ H → D.nx σ H) RT) E, ⟨n, s0, h0, hm⟩, ?_⟩
  rintro m σ H ⟨s, hr, hw⟩
  cases m with
  | zero => exact hw.elim
  | succ m =>
    have hw := wp_bind (m := cb s) (f := fun b => if b = true then (f s).bind fun o => match o with
      | .nx s' => whileL cb f m s'
      | .bk s' => .ok (.dn s')
      | .rt r => .ok (.rt r) else .ok (.dn s)) hw
    refine hs s σ H (fun σ' H' => ∃ s', rel s' σ' H' ∧ wp (whileL cb f m s') (leP (fun s => ∀ σ H, rel s σ H → D.nx σ H) RT) E) _ _ (fun σ' H' h => ⟨m, Nat.lt_succ_self _, h⟩) hr (wp_imp hw (fun b hb => ?_) fun _ e => e)
    cases b with
    | true =>
      refine wp_imp (wp_bind hb) (fun o ho => ?_) fun _ e => e
      cases o with
      | nx s' => exact fun σ' H' r' => ⟨s', r', ho⟩
      | bk s' => exact ho
      | rt r => exact ho
    | false => exact hb
theorem wp_thn {σ ρ τ : Type} {o : Le σ ρ} {k : σ → R τ} {ret : ρ → R τ} {P : τ → Prop} (h : wp (o.thn k ret) P E) : leP (fun s => wp (k s) P E) (fun r => wp (ret r) P E) o := by
  cases o <;> exact h
theorem leP_imp {σ ρ : Type} {o : Le σ ρ} {dn dn' : σ → Prop} {rt rt' : ρ → Prop} (h : leP dn rt o) (h1 : ∀ s, dn s → dn' s) (h2 : ∀ r, rt r → rt' r) : leP dn' rt' o := by
  cases o with
  | dn s => exact h1 s h
  | rt r => exact h2 r h
end
/-- two statements in a row: what the second one wants is shown once -/
theorem seq_join {S : Type} {t u : TS} {D : Ends} {σ : L2.St} {H : Hp} {m : R S} {Z : S → Prop} {E : Er → Prop} (hm : wp m Z E) (rel : S → L2.St → Hp → Prop)
    (h : ∀ N : L2.St → Hp → Prop, (∀ s σ' H', rel s σ' H' → Z s → N σ' H') → wp m Z E → t { D with nx := N } σ H) (hk : ∀ s σ' H', rel s σ' H' → Z s → u D σ' H') : tSeq t u D σ H := h (u D) hk hm
/-- .. behind a loop that may be left by return -/
theorem seq_joinL {σt ρ : Type} {t u : TS} {D : Ends} {σ : L2.St} {H : Hp} {m : R (Le σt ρ)} {Z : σt → Prop} {RT : ρ → Prop} {E : Er → Prop} (hm : wp m (leP Z RT) E) (rel : σt → L2.St → Hp → Prop)
    (h : ∀ N : L2.St → Hp → Prop, wp m (leP (fun s => ∀ σ' H', rel s σ' H' → N σ' H') RT) E → t { D with nx := N } σ H) (hk : ∀ s σ' H', rel s σ' H' → Z s → u D σ' H') : tSeq t u D σ H :=
  h (u D) (wp_imp hm (fun _ ho => leP_imp ho (fun s hz σ' H' hr => hk s σ' H' hr hz) fun _ h => h) fun _ e => e)
theorem iteB {c : Bool} {A B : Prop} (h1 : c = true → A) (h2 : c = false → B) : if c = true then A else B := by
  cases c with
  | true => exact iteT (h1 rfl)
  | false => exact iteF (h2 rfl)
theorem wp_iteB {α : Type} {c : Bool} {m n : R α} {P : α → Prop} {E : Er → Prop} (h : wp (if c = true then m else n) P E) : if c = true then wp m P E else wp n P E := by
  cases c <;> exact h
theorem ifT {c : Bool} {A B : Prop} (e : c = true) (h : if c = true then A else B) : A := by
  rw [if_pos e] at h
  exact h
theorem ifF {c : Bool} {A B : Prop} (e : c = false) (h : if c = true then A else B) : B := by
  rw [e, if_neg (by decide)] at h
  exact h
/-! ### parts of an expression that are shown apart: and, or, if -/
def EvT (t : TT) (σ : L2.St) (H : Hp) (m : R Bool) (E : Er → Prop) : Prop := ∀ Q : Bool → Hp → Prop, wp m (fun c => ∀ H', Gr [] H H' → Q c H') E → t σ H Q
def EvV {α : Type} (r : Rp α) (t : TE) (σ : L2.St) (H : Hp) (m : R α) (E : Er → Prop) : Prop := ∀ Q : VK, wp m (fun x => ∀ v H', Gr [] H H' → r H' x v → Q v H') E → t σ H Q
section
variable {t u : TT} {σ : L2.St} {H : Hp} {E : Er → Prop} {m n : R Bool}
def andR (m n : R Bool) : R Bool := m.bind fun b => if b = true then n else .ok false
def orR (m n : R Bool) : R Bool := m.bind fun b => if b = true then .ok true else n
theorem ev_and (h1 : EvT t σ H m E) (h2 : ∀ H', Gr [] H H' → EvT u σ H' n E) : EvT (tAnd t u) σ H (andR m n) E := fun Q hw => h1 _ (wp_imp (wp_bind hw) (fun b hb H' g => by
  cases b with
  | true => exact iteT (h2 H' g Q (wp_imp hb (fun c hc H2 g2 => hc H2 (g.trans g2)) fun _ e => e))
  | false => exact iteF (hb H' g)) fun _ e => e)
theorem ev_or (h1 : EvT t σ H m E) (h2 : ∀ H', Gr [] H H' → EvT u σ H' n E) : EvT (tOr t u) σ H (orR m n) E := fun Q hw => h1 _ (wp_imp (wp_bind hw) (fun b hb H' g => by
  cases b with
  | true => exact iteT (hb H' g)
  | false => exact iteF (h2 H' g Q (wp_imp hb (fun c hc H2 g2 => hc H2 (g.trans g2)) fun _ e => e))) fun _ e => e)
theorem ev_andV {ta tb : TE} (h1 : EvV rB ta σ H m E) (h2 : ∀ H', Gr [] H H' → EvV rB tb σ H' n E) : EvV rB (tAndV ta tb) σ H (andR m n) E := fun Q hw => h1 _ (wp_imp (wp_bind hw) (fun b hb v H' g e => ⟨b, e, by
  cases b with
  | true => exact iteT (h2 H' g Q (wp_imp hb (fun c hc v2 H2 g2 e2 => hc v2 H2 (g.trans g2) e2) fun _ e => e))
  | false => exact iteF (hb (.bl false) H' g rfl)⟩) fun _ e => e)
theorem ev_if {α : Type} {r : Rp α} {ta tb : TE} {x y : R α} (h1 : EvT t σ H m E) (h2 : ∀ H', Gr [] H H' → EvV r ta σ H' x E) (h3 : ∀ H', Gr [] H H' → EvV r tb σ H' y E) : EvV r (tIf t ta tb) σ H (m.bind fun b => if b = true then x else y) E :=
  fun Q hw => h1 _ (wp_imp (wp_bind hw) (fun b hb H' g => by
    cases b with
    | true => exact iteT (h2 H' g Q (wp_imp hb (fun c hc v2 H2 g2 e2 => hc v2 H2 (g.trans g2) e2) fun _ e => e))
    | false => exact iteF (h3 H' g Q (wp_imp hb (fun c hc v2 H2 g2 e2 => hc v2 H2 (g.trans g2) e2) fun _ e => e))) fun _ e => e)
end
/-! ### a def, for its callers -/
def Cal (P : Program) (w : World) (K : PySem.W.Frag) (mg : Str → Option Value) (base : Heap) (CX : CXT) (k : Nat) (x : Str) (ps : List Str) (sp : Sp) : Prop :=
  ∃ (f : Addr) (fd : FuncData), FnOk P w K mg base CX k f fd ps sp ∧ mg x = some (.ref f) ∧ PySem.W.keepIn K (.ref f) = true ∧ Binds K fd ps []

/-- .. where the statement is the last of its block -/
theorem nx_join {S : Type} {t : TS} {D : Ends} {σ : L2.St} {H : Hp} {m : R S} {Z : S → Prop} {E : Er → Prop} (hm : wp m Z E) (rel : S → L2.St → Hp → Prop)
    (h : ∀ N : L2.St → Hp → Prop, (∀ s σ' H', rel s σ' H' → Z s → N σ' H') → wp m Z E → t { D with nx := N } σ H) (hk : ∀ s σ' H', rel s σ' H' → Z s → D.nx σ' H') : t D σ H := h D.nx hk hm
theorem wp_le {σt ρ τ : Type} {m : R (Le σt ρ)} {k : σt → R τ} {ret : ρ → R τ} {P : τ → Prop} {E : Er → Prop} (h : wp (m.bind fun o => o.thn k ret) P E) : wp m (leP (fun s => wp (k s) P E) (fun r => wp (ret r) P E)) E :=
  wp_imp (wp_bind h) (fun _ h => wp_thn h) fun _ e => e
theorem wp_N {S : Type} {m : R S} {Z : S → Prop} {E : Er → Prop} {rel : S → L2.St → Hp → Prop} {N : L2.St → Hp → Prop} (hm : wp m Z E) (hN : ∀ s σ' H', rel s σ' H' → Z s → N σ' H') : wp m (fun s => ∀ σ' H', rel s σ' H' → N σ' H') E :=
  wp_imp hm (fun s hz σ' H' hr => hN s σ' H' hr hz) fun _ e => e
theorem all0 {P : Addr → Prop} : ∀ p ∈ ([] : List Addr), P p := fun _ m => absurd m (by simp)
theorem all1 {P : Addr → Prop} {a : Addr} {l : List Addr} (h : P a) (t : ∀ p ∈ l, P p) : ∀ p ∈ a :: l, P p := fun p m => by
  rcases List.mem_cons.mp m with rfl | m
  · exact h
  · exact t p m
theorem nin0 {a : Addr} : a ∉ ([] : List Addr) := by simp
theorem nin1 {a b : Addr} {l : List Addr} (h : a ≠ b) (t : a ∉ l) : a ∉ b :: l := fun m => by
  rcases List.mem_cons.mp m with e | m
  · exact h e
  · exact t m
theorem in1 {a b : Addr} {l : List Addr} (h : a ∈ l) : a ∈ b :: l := List.mem_cons_of_mem _ h
/-! ### more on data -/
instance (i j : Int) : Decidable (CMul i j) := inferInstanceAs (Decidable (_ ∨ _))
instance (i j : Int) : Decidable (CDiv i j) := inferInstanceAs (Decidable (_ ∧ _))
instance (i j : Int) : Decidable (CDivN i j) := inferInstanceAs (Decidable (_ ∧ _))
section
variable {α β γ : Type} {K : PySem.W.Frag} {r : Rp α} {s : Rp β} {t : Rp γ} {H : Hp} {a : Addr} {xs : List α} {Q : VK} {E : Er → Prop}
theorem Ls.ty (h : Ls r H a xs) : tyV K "list" (.ref a) H := let ⟨_, h1, _⟩ := h; .inl ⟨rfl, _, .inl (.inl h1)⟩
/-- an item is added to a comprehension's list -/
theorem lc_add [Imm r] {x : α} {y : V} {Nx : Hp → Prop} (h : Ls r H a xs) (hy : r H x y) (l : lenLt xs) (q : ∀ H', Gr [a] H H' → Ls r H' a (xs ++ [x]) → Nx H') : ∃ acc, H a = some (.lst acc) ∧ acc.length < sizeLine ∧ Nx (upd H a (.lst (acc ++ [y]))) := by
  obtain ⟨vs, h1, h2⟩ := h
  exact ⟨vs, h1, by rw [← Paired.length h2]; exact l, q _ (Gr.set h1) ⟨_, upd_same, Paired.app (Paired.imm (Gr.set h1) h2) (.cons (Imm.mono (Gr.set h1) hy) .nil)⟩⟩
theorem chain_I {X Y Z : Int} {p q : Int → Int → Bool} {ta tb tc : TE} {σ : L2.St} (ha : ∀ Q : VK, Q (.int X) H → ta σ H Q) (hb : ∀ Q : VK, Q (.int Y) H → tb σ H Q) (hc : ∀ Q : VK, Q (.int Z) H → tc σ H Q)
    (h : Q (.bl (p X Y && q Y Z)) H) : tChain (rI0 fun i j => .bl (p i j)) (rI0 fun i j => .bl (q i j)) ta tb tc σ H Q := by
  refine ha _ (hb _ ⟨_, _, rfl, rfl, _, rfl, ?_⟩)
  cases e : p X Y with
  | true =>
    rw [e] at h
    exact iteT (hc _ ⟨_, _, rfl, rfl, h⟩)
  | false =>
    rw [e] at h
    exact iteF h
/-! ### == of data -/
theorem beq_dec {α : Type} [BEq α] [LawfulBEq α] [DecidableEq α] (a b : α) : (a == b) = decide (a = b) := by
  rw [Bool.eq_iff_iff, beq_iff_eq, decide_eq_true_eq]
structure DRep {α : Type} [DecidableEq α] (K : PySem.W.Frag) (r : Rp α) where
  enc : α → PyData
  dp : ∀ {H : Hp} {x : α} {v : V}, r H x v → Dp K H v (enc x)
  lay : ∀ x, (enc x).canLay0 = true
  dep : Nat
  dep_le : ∀ x, (enc x).depth ≤ dep
  eqv : ∀ x y, PyData.eqv (enc x) (enc y) = decide (x = y)
def DRep.int (K : PySem.W.Frag) : DRep K rI := ⟨.int, fun h => by rw [show _ = V.int _ from h]; exact .int _, fun _ => by rw [PyData.canLay0], 0, fun _ => by rw [PyData.depth]; exact Nat.le_refl _, fun a b => by
  simp only [PyData.eqv]
  exact beq_dec a b⟩
def DRep.bool (K : PySem.W.Frag) : DRep K rB := ⟨.bool, fun h => by rw [show _ = V.bl _ from h]; exact .bl _, fun _ => by rw [PyData.canLay0], 0, fun _ => by rw [PyData.depth]; exact Nat.le_refl _, fun a b => by
  simp only [PyData.eqv]
  exact beq_dec a b⟩
section
variable [DecidableEq α] [DecidableEq β] [DecidableEq γ]
theorem DRep.all (d : DRep K r) : ∀ {xs : List α} {vs : List V}, Paired (r H) xs vs → DpAll K H vs (xs.map d.enc)
  | _, _, .nil => .nil
  | _, _, .cons h t => .cons (d.dp h) (DRep.all d t)
theorem DRep.layA (d : DRep K r) : ∀ xs : List α, PyData.canLayAll0 (xs.map d.enc) = true
  | [] => by rw [List.map_nil, PyData.canLayAll0]
  | x :: xs => by
    rw [List.map_cons, PyData.canLayAll0, d.lay x, DRep.layA d xs]
    rfl
theorem DRep.depA (d : DRep K r) : ∀ xs : List α, PyData.depthAll (xs.map d.enc) ≤ d.dep
  | [] => by
    rw [List.map_nil, PyData.depthAll]
    exact Nat.zero_le _
  | x :: xs => by
    rw [List.map_cons, PyData.depthAll]
    exact Nat.max_le.mpr ⟨d.dep_le x, DRep.depA d xs⟩
theorem DRep.eqvA (d : DRep K r) : ∀ xs ys : List α, PyData.eqvAll (xs.map d.enc) (ys.map d.enc) = decide (xs = ys)
  | [], [] => by simp only [List.map_nil, PyData.eqvAll, decide_true]
  | [], _ :: _ => by simp [PyData.eqvAll]
  | _ :: _, [] => by simp [PyData.eqvAll]
  | x :: xs, y :: ys => by
    rw [List.map_cons, List.map_cons, PyData.eqvAll, d.eqv x y, DRep.eqvA d xs ys, ← Bool.decide_and]
    exact decide_eq_decide.mpr (by rw [List.cons.injEq])
def DRep.tup (d : DRep K r) : DRep K (rT K r) where
  enc xs := .tuple (xs.map d.enc)
  dp := fun h => by
    obtain ⟨a, rfl, vs, h1, h2⟩ := h
    exact .tup h1 (d.all h2)
  lay xs := by rw [PyData.canLay0]; exact d.layA xs
  dep := d.dep + 1
  dep_le xs := by rw [PyData.depth]; exact Nat.succ_le_succ (d.depA xs)
  eqv xs ys := by simp only [PyData.eqv]; exact d.eqvA xs ys
def rL (K : PySem.W.Frag) (r : Rp α) : Rp (List α) := fun H xs v => ∃ a, v = .ref a ∧ Lq K r H a xs
def DRep.lst (d : DRep K r) : DRep K (rL K r) where
  enc xs := .list (xs.map d.enc)
  dp := fun h => by
    obtain ⟨a, rfl, vs, h1, h2⟩ := h
    exact .lst h1 (d.all h2)
  lay xs := by rw [PyData.canLay0]; exact d.layA xs
  dep := d.dep + 1
  dep_le xs := by rw [PyData.depth]; exact Nat.succ_le_succ (d.depA xs)
  eqv xs ys := by simp only [PyData.eqv]; exact d.eqvA xs ys
def DRep.pair (d : DRep K r) (e : DRep K s) : DRep K (rP K r s) where
  enc p := .tuple [d.enc p.1, e.enc p.2]
  dp := fun h => by
    obtain ⟨a, x, y, rfl, h, h1, h2⟩ := h
    exact .tup h (.cons (d.dp h1) (.cons (e.dp h2) .nil))
  lay p := by simp [PyData.canLay0, PyData.canLayAll0, d.lay, e.lay]
  dep := max d.dep e.dep + 1
  dep_le p := by
    have := d.dep_le p.1
    have := e.dep_le p.2
    simp only [PyData.depth, PyData.depthAll]
    omega
  eqv p q := by
    obtain ⟨a, b⟩ := p
    obtain ⟨c, f⟩ := q
    simp only [PyData.eqv, PyData.eqvAll, d.eqv, e.eqv, Bool.and_true, ← Bool.decide_and]
    exact decide_eq_decide.mpr (by rw [Prod.mk.injEq])
theorem DRep.sh (d : DRep K r) (hl : d.dep ≤ 64) (x : α) : SeqAt.shaped (d.enc x) = true := by
  unfold SeqAt.shaped
  rw [d.lay x, Bool.true_and]
  exact decide_eq_true (Nat.le_trans (d.dep_le x) hl)
theorem eq_D (d : DRep K r) {x y : α} {v w : V} (hx : r H x v) (hy : r H y w) (q : Q (.bl (decide (x = y))) H) (hl : d.dep ≤ 64 := by exact Nat.le_of_ble_eq_true rfl) : rEqD K v w H Q :=
  ⟨_, _, d.dp hx, d.dp hy, d.sh hl x, d.sh hl y, by rw [d.eqv]; exact q⟩
theorem ne_D (d : DRep K r) {x y : α} {v w : V} (hx : r H x v) (hy : r H y w) (q : Q (.bl (!decide (x = y))) H) (hl : d.dep ≤ 64 := by exact Nat.le_of_ble_eq_true rfl) : rNeD K v w H Q :=
  ⟨_, _, d.dp hx, d.dp hy, d.sh hl x, d.sh hl y, by rw [d.eqv]; exact q⟩
end
/-! ### comprehensions over lists, tuples, ranges; A: the lists that the elements change, st: what else is carried -/
theorem lc_lst {σt : Type} {s0 : σt} {f : σt → α → R σt} {Z : σt → Prop} {g : TG} {tt : TT} {te : TE} {own : List Nat} {σ : L2.St} {H1 : Hp} {D : Addr} {Qd : Hp → Prop} (rel : σt → Hp → Prop) {vs : List V} (hp : Paired (r H1) xs vs)
    (hm : wp (foldR f s0 xs) Z E) (h0 : rel s0 (upd H1 D (.lst []))) (hl : ∀ s H, rel s H → SqL K H a vs)
    (hs : ∀ (x : α) (v : V) (s : σt) (H : Hp) (Nx : Hp → Prop), r H1 x v → rel s H → wp (f s x) (fun s' => ∀ H', rel s' H' → Nx H') E →
      g (v) (wipe σ own) H fun σ2 H2 => wipe σ2 own = wipe σ own ∧ tt σ2 H2 fun b H3 => if b = true then te σ2 H3 fun y H4 => ∃ acc, H4 D = some (.lst acc) ∧ acc.length < sizeLine ∧ Nx (upd H4 D (.lst (acc ++ [y]))) else Nx H3)
    (hd : ∀ s H, rel s H → Z s → Qd H) :
    ∃ W : Nat → Nat → Hp → Prop, (∃ m, W 0 m (upd H1 D (.lst []))) ∧ ∀ i m H, W i m H →
      ((Itl K a).stop i H ∧ Qd H) ∨ ((Itl K a).go i H ∧ ∃ Nx : Hp → Prop, (∀ H', Nx H' → ∃ m', m' < m ∧ W (i + 1) m' H') ∧ ∀ x H', (Itl K a).yld i H x H' → g x (wipe σ own) H' fun σ2 H2 => wipe σ2 own = wipe σ own ∧ tt σ2 H2 fun b H3 =>
        if b = true then te σ2 H3 fun y H4 => ∃ acc, H4 D = some (.lst acc) ∧ acc.length < sizeLine ∧ Nx (upd H4 D (.lst (acc ++ [y]))) else Nx H3) := by
  refine L2.lc_list (K := K) (a := a) (xs := vs) (fun i H => ∃ s, rel s H ∧ wp (foldR f s (xs.drop i)) Z E) ⟨s0, h0, hm⟩ (fun i H _ ⟨s, hr, _⟩ => hl s H hr) ?_ ?_
  · rintro i v H hi ⟨s, hr, hw⟩
    have hi' : i < xs.length := by rw [Paired.length hp]; exact (List.getElem?_eq_some_iff.mp hi).1
    have hw := foldR_step hi' hw
    exact hs xs[i] v s H _ (Paired.get2 hp hi hi') hr (wp_imp hw (fun s' hs' => fun H' r' => ⟨s', r', hs'⟩) fun _ e => e)
  · rintro H ⟨s, hr, hw⟩
    exact hd s H hr (foldR_end (by rw [Paired.length hp]; exact Nat.le_refl _) hw)
theorem lc_tup {σt : Type} {s0 : σt} {f : σt → α → R σt} {Z : σt → Prop} {g : TG} {tt : TT} {te : TE} {own : List Nat} {σ : L2.St} {H1 : Hp} {D : Addr} {Qd : Hp → Prop} (rel : σt → Hp → Prop) {vs : List V} (hp : Paired (r H1) xs vs)
    (hm : wp (foldR f s0 xs) Z E) (h0 : rel s0 (upd H1 D (.lst []))) (hl : ∀ s H, rel s H → SqT K H a vs)
    (hs : ∀ (x : α) (v : V) (s : σt) (H : Hp) (Nx : Hp → Prop), r H1 x v → rel s H → wp (f s x) (fun s' => ∀ H', rel s' H' → Nx H') E →
      g (v) (wipe σ own) H fun σ2 H2 => wipe σ2 own = wipe σ own ∧ tt σ2 H2 fun b H3 => if b = true then te σ2 H3 fun y H4 => ∃ acc, H4 D = some (.lst acc) ∧ acc.length < sizeLine ∧ Nx (upd H4 D (.lst (acc ++ [y]))) else Nx H3)
    (hd : ∀ s H, rel s H → Z s → Qd H) :
    ∃ W : Nat → Nat → Hp → Prop, (∃ m, W 0 m (upd H1 D (.lst []))) ∧ ∀ i m H, W i m H →
      ((Itt K a).stop i H ∧ Qd H) ∨ ((Itt K a).go i H ∧ ∃ Nx : Hp → Prop, (∀ H', Nx H' → ∃ m', m' < m ∧ W (i + 1) m' H') ∧ ∀ x H', (Itt K a).yld i H x H' → g x (wipe σ own) H' fun σ2 H2 => wipe σ2 own = wipe σ own ∧ tt σ2 H2 fun b H3 =>
        if b = true then te σ2 H3 fun y H4 => ∃ acc, H4 D = some (.lst acc) ∧ acc.length < sizeLine ∧ Nx (upd H4 D (.lst (acc ++ [y]))) else Nx H3) := by
  refine L2.lc_tup (K := K) (a := a) (xs := vs) (fun i H => ∃ s, rel s H ∧ wp (foldR f s (xs.drop i)) Z E) ⟨s0, h0, hm⟩ (fun i H _ ⟨s, hr, _⟩ => hl s H hr) ?_ ?_
  · rintro i v H hi ⟨s, hr, hw⟩
    have hi' : i < xs.length := by rw [Paired.length hp]; exact (List.getElem?_eq_some_iff.mp hi).1
    have hw := foldR_step hi' hw
    exact hs xs[i] v s H _ (Paired.get2 hp hi hi') hr (wp_imp hw (fun s' hs' => fun H' r' => ⟨s', r', hs'⟩) fun _ e => e)
  · rintro H ⟨s, hr, hw⟩
    exact hd s H hr (foldR_end (by rw [Paired.length hp]; exact Nat.le_refl _) hw)
theorem lc_rng {σt : Type} {s0 : σt} {f : σt → Int → R σt} {Z : σt → Prop} {g : TG} {tt : TT} {te : TE} {own : List Nat} {σ : L2.St} {H1 : Hp} {D : Addr} {Qd : Hp → Prop} (rel : σt → Hp → Prop) {lo : Int} {n : Nat}
    (hm : wp (foldR f s0 (rng lo n)) Z E) (h0 : rel s0 (upd H1 D (.lst [])))
    (hs : ∀ (x : Int) (s : σt) (H : Hp) (Nx : Hp → Prop), rel s H → wp (f s x) (fun s' => ∀ H', rel s' H' → Nx H') E →
      g (.int x) (wipe σ own) H fun σ2 H2 => wipe σ2 own = wipe σ own ∧ tt σ2 H2 fun b H3 => if b = true then te σ2 H3 fun y H4 => ∃ acc, H4 D = some (.lst acc) ∧ acc.length < sizeLine ∧ Nx (upd H4 D (.lst (acc ++ [y]))) else Nx H3)
    (hd : ∀ s H, rel s H → Z s → Qd H) :
    ∃ W : Nat → Nat → Hp → Prop, (∃ m, W 0 m (upd H1 D (.lst []))) ∧ ∀ i m H, W i m H →
      ((Itr lo n).stop i H ∧ Qd H) ∨ ((Itr lo n).go i H ∧ ∃ Nx : Hp → Prop, (∀ H', Nx H' → ∃ m', m' < m ∧ W (i + 1) m' H') ∧ ∀ x H', (Itr lo n).yld i H x H' → g x (wipe σ own) H' fun σ2 H2 => wipe σ2 own = wipe σ own ∧ tt σ2 H2 fun b H3 =>
        if b = true then te σ2 H3 fun y H4 => ∃ acc, H4 D = some (.lst acc) ∧ acc.length < sizeLine ∧ Nx (upd H4 D (.lst (acc ++ [y]))) else Nx H3) := by
  refine L2.lc_range (lo := lo) (n := n) (fun i H => ∃ s, rel s H ∧ wp (foldR f s ((rng lo n).drop i)) Z E) ⟨s0, h0, hm⟩ ?_ ?_
  · rintro i H hi ⟨s, hr, hw⟩
    have hi' : i < (rng lo n).length := by rw [rng_length]; exact hi
    have hw := foldR_step hi' hw
    rw [rng_get lo n i hi'] at hw
    exact hs (lo + i) s H _ hr (wp_imp hw (fun s' hs' => fun H' r' => ⟨s', r', hs'⟩) fun _ e => e)
  · rintro H ⟨s, hr, hw⟩
    exact hd s H hr (foldR_end (by rw [rng_length]; exact Nat.le_refl _) hw)
end

theorem iteB' {c : Bool} {A B : Prop} (h2 : c = false → B) (h1 : c = true → A) : if c = true then A else B := iteB h1 h2
def rgOk (j : Int) : Prop := -(2 ^ 62) ≤ j ∧ j < 2 ^ 62
instance (j : Int) : Decidable (rgOk j) := inferInstanceAs (Decidable (_ ∧ _))
def rg2Ok (i j : Int) : Prop := -(2 ^ 62) ≤ i ∧ i < 2 ^ 62 ∧ -(2 ^ 62) ≤ j ∧ j < 2 ^ 62
instance (i j : Int) : Decidable (rg2Ok i j) := inferInstanceAs (Decidable (_ ∧ _))

/-! ### the readings' parts, one by one -/
section
variable {D : Ends} {σ : L2.St} {H : Hp} {Q : VK} {K : PySem.W.Frag} {ta tb te : TE} {t u : TS} {tc : TT} {l : TA} {i j k : Nat} {v w : V}
theorem rd_var (e : σ[i]? = some (some v)) (h : Q v H) : tVar i σ H Q := ⟨v, e, h⟩
theorem rd_c (h : Q v H) : tC v σ H Q := h
theorem rd_op {r : R2} (h : ta σ H fun x H1 => tb σ H1 fun y H2 => r x y H2 Q) : tOp r ta tb σ H Q := h
theorem rd_rI0 {g : Int → Int → V} {a b : Int} (h : Q (g a b) H) : rI0 g (.int a) (.int b) H Q := ⟨a, b, rfl, rfl, h⟩
theorem rd_rI {C : Int → Int → Prop} {g : Int → Int → V} {a b : Int} (c : C a b) (h : Q (g a b) H) : L2.rI C g (.int a) (.int b) H Q := ⟨a, b, rfl, rfl, c, h⟩
theorem rd_un {r : V → Hp → VK → Prop} (h : ta σ H fun x H1 => r x H1 Q) : tUn r ta σ H Q := h
theorem rd_rU {g : Int → V} {a : Int} (h : Q (g a) H) : rU g (.int a) H Q := ⟨a, rfl, h⟩
def k2 (p : Int → Int → Bool) (x y : V) (H : Hp) (Q : VK) : Prop := ∃ i j, x = .int i ∧ y = .int j ∧ Q (.bl (p i j)) H
def kB (x : V) (H : Hp) (Q : Bool → Hp → Prop) : Prop := ∃ c, x = .bl c ∧ Q c H
theorem rd_kB {c : Bool} {Q : Bool → Hp → Prop} (h : Q c H) : kB (.bl c) H Q := ⟨c, rfl, h⟩
theorem rd_B {Q : Bool → Hp → Prop} (h : ta σ H fun x H1 => kB x H1 Q) : tB ta σ H Q := h
theorem rd_T {Q : Bool → Hp → Prop} (h : ta σ H fun x H1 => kB x H1 Q) : tTest ta σ H Q := h
def kN (x : V) (H : Hp) (Q : VK) : Prop := ∃ c, x = .bl c ∧ Q (.bl (!c)) H
theorem rd_kN {c : Bool} (h : Q (.bl (!c)) H) : kN (.bl c) H Q := ⟨c, rfl, h⟩
theorem rd_notV (h : ta σ H fun x H1 => kN x H1 Q) : tNotV ta σ H Q := h
theorem rd_not {Q : Bool → Hp → Prop} (h : tc σ H fun c H1 => Q (!c) H1) : tNot tc σ H Q := h
theorem rd_rNe {x y : V} (s : scal x y = true) (h : Q (.bl (!decide (x = y))) H) : rNe x y H Q := ⟨s, h⟩
theorem rd_call {sp : Sp} {dvs : List V} {E : XK} (h : l σ H fun vs H1 => sp (vs ++ dvs) H1 Q E) : tCall sp dvs E l σ H Q := h
theorem rd_cb {r : List V → Hp → VK → Prop} (h : l σ H fun vs H1 => ap3 r vs H1 Q) : tCB r l σ H Q := h
theorem rd_nil {Q : List V → Hp → Prop} (h : Q [] H) : tNil σ H Q := h
theorem rd_cons {Q : List V → Hp → Prop} (h : ta σ H fun x H1 => l σ H1 fun xs H2 => Q (x :: xs) H2) : tCons ta l σ H Q := h
theorem rd_tup (h : l σ H fun xs H1 => aTup xs H1 Q) : tTup l σ H Q := h
theorem rd_lst (h : l σ H fun xs H1 => aLst xs H1 Q) : tLst l σ H Q := h
theorem rd_sl {r : V → Option Int → Option Int → Hp → VK → Prop} {tl th : TO} (h : te σ H fun x H1 => tl σ H1 fun l H2 => th σ H2 fun u H3 => r x l u H3 Q) : tSl r te tl th σ H Q := h
theorem rd_np {Q : Option Int → Hp → Prop} (h : Q none H) : tNoPart σ H Q := h
def kI (x : V) (H : Hp) (Q : Option Int → Hp → Prop) : Prop := ∃ i, x = .int i ∧ Q (some i) H
theorem rd_kI {a : Int} {Q : Option Int → Hp → Prop} (h : Q (some a) H) : kI (.int a) H Q := ⟨a, rfl, h⟩
theorem rd_part {Q : Option Int → Hp → Prop} (h : te σ H fun x H1 => kI x H1 Q) : tPart te σ H Q := h
theorem rd_bm {T : String} {r : V → List V → Hp → VK → Prop} (h : te σ H fun x H1 => tyV K T x H1 ∧ l σ H1 fun xs H2 => r x xs H2 Q) : tBM K T r te l σ H Q := h
theorem rd_il {R : It → Hp → Prop} (h : te σ H fun x H1 => ∃ a, x = .ref a ∧ (∃ xs, SqL K H1 a xs) ∧ R (Itl K a) H1) : iList K te σ H R := h
theorem rd_it {R : It → Hp → Prop} (h : te σ H fun x H1 => ∃ a, x = .ref a ∧ (∃ xs, SqT K H1 a xs) ∧ R (Itt K a) H1) : iTup K te σ H R := h
theorem rd_r1 {R : It → Hp → Prop} (h : l σ H fun vs H1 => ∃ j : Int, vs = [.int j] ∧ -(2 ^ 62) ≤ j ∧ j < 2 ^ 62 ∧ R (Itr 0 j.toNat) H1) : iRng1 l σ H R := h
theorem rd_r2 {R : It → Hp → Prop} (h : l σ H fun vs H1 => ∃ i j : Int, vs = [.int i, .int j] ∧ (-(2 ^ 62) ≤ i ∧ i < 2 ^ 62 ∧ -(2 ^ 62) ≤ j ∧ j < 2 ^ 62) ∧ R (Itr i (j - i).toNat) H1) : iRng2 l σ H R := h
-- statements
theorem rd_seq (h : t ⟨u D, D.rt, D.bk, D.ct⟩ σ H) : tSeq t u D σ H := h
theorem rd_nx {n b c : L2.St → Hp → Prop} {r : VK} (h : n σ H) : Ends.nx ⟨n, r, b, c⟩ σ H := h
theorem rd_next (h : D.nx σ H) : tNext D σ H := h
theorem rd_asg {g : TG} (h : te σ H fun x H1 => g x σ H1 D.nx) : tAsg te g D σ H := h
theorem rd_gn {Q : L2.St → Hp → Prop} (h : Q (σ.set i (some v)) H) : gName i v σ H Q := h
theorem rd_ret (h : te σ H D.rt) : tRet te D σ H := h
theorem rd_if (h : tc σ H fun b H1 => if b = true then t D σ H1 else u D σ H1) : tIfS tc t u D σ H := h
theorem rd_drop (h : te σ H fun _ H1 => D.nx σ H1) : tDrop te D σ H := h
def kp2 (i j : Nat) (vs : List V) (σ : L2.St) (H : Hp) (Q : L2.St → Hp → Prop) : Prop := ∃ v w, vs = [v, w] ∧ Q ((σ.set i (some v)).set j (some w)) H
theorem rd_kp2 {Q : L2.St → Hp → Prop} {a b : V} (h : Q ((σ.set i (some a)).set j (some b)) H) : kp2 i j [a, b] σ H Q := ⟨a, b, rfl, h⟩
theorem rd_par (h : l σ H fun vs H1 => kp2 i j vs σ H1 D.nx) : tPar i j l D σ H := h
def kp3 (i j k : Nat) (vs : List V) (σ : L2.St) (H : Hp) (Q : L2.St → Hp → Prop) : Prop := ∃ u v w, vs = [u, v, w] ∧ Q (((σ.set i (some u)).set j (some v)).set k (some w)) H
theorem rd_kp3 {Q : L2.St → Hp → Prop} {a b c : V} (h : Q (((σ.set i (some a)).set j (some b)).set k (some c)) H) : kp3 i j k [a, b, c] σ H Q := ⟨a, b, c, rfl, h⟩
theorem rd_par3 (h : l σ H fun vs H1 => kp3 i j k vs σ H1 D.nx) : tPar3 i j k l D σ H := h
theorem rd_aug {ti : TIp} (e : σ[i]? = some (some v)) (h : te σ H fun y H1 => ti v y H1 fun z H2 => D.nx (σ.set i (some z)) H2) : tAug i te ti D σ H := ⟨v, e, h⟩
theorem rd_for {wi : TI} {g : TG} {tb : TS} (h : wi σ H fun J H1 => ∃ W : Nat → Nat → L2.St → Hp → Prop, (∃ m, W 0 m σ H1) ∧ ∀ i m σ H, W i m σ H →
  (J.stop i H ∧ D.nx σ H) ∨ (J.go i H ∧ ∃ N : L2.St → Hp → Prop, (∀ σ' H', N σ' H' → ∃ m', m' < m ∧ W (i + 1) m' σ' H') ∧ ∀ x H', J.yld i H x H' → g x σ H' fun σ2 H2 => tb { D with nx := N, ct := N, bk := D.nx } σ2 H2)) : tFor wi g tb D σ H := h
theorem rd_gc {t : TG} {u : TGs} {xs : List V} {Q : L2.St → Hp → Prop} (h : t v σ H fun σ' H' => u xs σ' H' Q) : gCons t u (v :: xs) σ H Q := ⟨v, xs, rfl, h⟩
theorem rd_g0 {Q : L2.St → Hp → Prop} (h : Q σ H) : gNil [] σ H Q := ⟨rfl, h⟩
theorem rd_gs {to ti : TE} {st : TSet} {Q : L2.St → Hp → Prop} (h : to σ H fun o H1 => ti σ H1 fun i H2 => st o i v H2 fun H3 => Q σ H3) : gSub to ti st v σ H Q := h
end

section
variable {X : Cx}
theorem op_eqI : OpR X (compareOp .Eq) (rI0 fun i j => .bl (decide (i = j))) := opB0 fun _ _ _ _ _ _ _ q => eq_int (by rw [Bool.beq_eq_decide_eq]; exact q)
theorem op_neI : OpR X (compareOp .NotEq) (rI0 fun i j => .bl (!decide (i = j))) := opB0 fun _ _ _ _ _ _ _ q => ne_int (by rw [bne, Bool.beq_eq_decide_eq]; exact q)
end

theorem rd_lc {wi : TI} {g : TG} {tt : TT} {te : TE} {vs : List Nat} {σ : L2.St} {H : Hp} {Q : VK} (h : wi σ H fun J H1 => ∀ D, H1 D = none → ∃ W : Nat → Nat → Hp → Prop, (∃ m, W 0 m (upd H1 D (.lst []))) ∧ ∀ i m H, W i m H →
  (J.stop i H ∧ Q (.ref D) H) ∨ (J.go i H ∧ ∃ Nx : Hp → Prop, (∀ H', Nx H' → ∃ m', m' < m ∧ W (i + 1) m' H') ∧ ∀ x H', J.yld i H x H' → g x (wipe σ vs) H' fun σ2 H2 => wipe σ2 vs = wipe σ vs ∧ tt σ2 H2 fun b H3 =>
    if b = true then te σ2 H3 fun y H4 => ∃ acc, H4 D = some (.lst acc) ∧ acc.length < sizeLine ∧ Nx (upd H4 D (.lst (acc ++ [y]))) else Nx H3)) : tLc wi g tt te vs σ H Q := h
theorem rd_yes {σ : L2.St} {H : Hp} {Q : Bool → Hp → Prop} (h : Q true H) : tYes σ H Q := h

/-! ### isinstance; membership; is None -/
def rA : Rp V := fun _ x v => v = x
instance : Imm rA := ⟨fun _ h => h⟩
section
variable {α : Type} {K : PySem.W.Frag} {r : Rp α} {H : Hp} {Q : VK} {x : V} {a : Addr} {xs : List α} {S T : String} {b : Bool}
theorem isi_ty (hx : TyX K H x (.type S)) (e : kitB S T = some b) (q : Q (.bl b) H) : ap3 (rIsi K) [x, .ty T] H Q := ⟨x, .ty T, .type S, .type T, b, rfl, .ty T, hx, kit_ty e, q⟩
theorem ty_int {i : Int} : TyX K H (.int i) (.type "int") := .base (.int i)
theorem ty_bl {i : Bool} : TyX K H (.bl i) (.type "bool") := .base (.bl i)
theorem ty_str {i : Str} : TyX K H (.str i) (.type "str") := .base (.str i)
theorem ty_sqt {vs : List V} (h : SqT K H a vs) : TyX K H (.ref a) (.type "tuple") := by
  rcases h with (h | ⟨o, h⟩) | ⟨o, its, n, h, c, _⟩
  · exact .base (.tup h)
  · exact .fTuple h
  · exact .kTuple h c
theorem ty_T {v : V} (h : rT K r H xs v) : TyX K H v (.type "tuple") := by
  obtain ⟨a, rfl, vs, h1, _⟩ := h
  exact ty_sqt h1
/-- a scalar of unknown kind -/
def scalV : V → Bool
  | .non => true | .bl _ => true | .int _ => true | .str _ => true
  | _ => false
def isIntV : V → Bool
  | .int _ => true | .bl _ => true
  | _ => false
def isBoolV : V → Bool
  | .bl _ => true
  | _ => false
theorem isi_intV (s : scalV x = true) (q : Q (.bl (isIntV x)) H) : ap3 (rIsi K) [x, .ty "int"] H Q := by
  cases x with
  | non => exact isi_ty (.base .non) (b := false) (by decide +kernel) q
  | bl i => exact isi_ty ty_bl (b := true) (by decide +kernel) q
  | int i => exact isi_ty ty_int (b := true) (by decide +kernel) q
  | str i => exact isi_ty ty_str (b := false) (by decide +kernel) q
  | _ => exact absurd (show false = true from s) Bool.false_ne_true
theorem isi_boolV (s : scalV x = true) (q : Q (.bl (isBoolV x)) H) : ap3 (rIsi K) [x, .ty "bool"] H Q := by
  cases x with
  | non => exact isi_ty (.base .non) (b := false) (by decide +kernel) q
  | bl i => exact isi_ty ty_bl (b := true) (by decide +kernel) q
  | int i => exact isi_ty ty_int (b := false) (by decide +kernel) q
  | str i => exact isi_ty ty_str (b := false) (by decide +kernel) q
  | _ => exact absurd (show false = true from s) Bool.false_ne_true
def rIsN : R2 := fun x y H Q => y = .non ∧ Q (.bl (decide (x = .non))) H
theorem op_isN' {X : Cx} : OpR X (compareOp .Is) rIsN := op_isN
theorem isN_opt {v : V} {o : Option α} (h : rO r H o v) (q : Q (.bl o.isNone) H) : rIsN v .non H Q := by
  refine ⟨rfl, ?_⟩
  cases o with
  | none =>
    rw [show v = V.non from h]
    exact q
  | some a =>
    rw [decide_eq_false h.1]
    exact q
end

section
variable {H : Hp} {Q : VK} {i j : Int}
theorem rd_abs (h : Q (.int (pabs i)) H) : ap3 (fun xs H Q => ∃ i, xs = [.int i] ∧ Q (.int (if i < 0 then -i else i)) H) [.int i] H Q := ⟨i, rfl, h⟩
theorem rd_int (h : Q (.int i) H) : ap3 (fun xs H Q => (∃ i, xs = [.int i] ∧ Q (.int i) H) ∨ ∃ k, xs = [.bl k] ∧ Q (.int (if k then 1 else 0)) H) [.int i] H Q := .inl ⟨i, rfl, h⟩
theorem rd_ipI {f : Int → Int → Int} (h : Q (.int (f i j)) H) : ipI f (.int i) (.int j) H Q := ⟨i, j, rfl, rfl, h⟩
end

section
variable {σ : L2.St} {H : Hp} {E : Er → Prop}
theorem ev_or3 {t0 t1 t2 : TT} {m0 m1 m2 : R Bool} (h0 : EvT t0 σ H m0 E) (h1 : ∀ H', Gr [] H H' → EvT t1 σ H' m1 E) (h2 : ∀ H', Gr [] H H' → EvT t2 σ H' m2 E) : EvT (tOr t0 (tOr t1 t2)) σ H (orR m0 (orR m1 m2)) E := ev_or h0 (fun H1 g1 => ev_or (h1 H1 g1) (fun H2 k2 => (have g2 := g1.trans k2; h2 H2 g2)))
end
end Mir
set_option Elab.async false
set_option linter.all false
set_option maxRecDepth 100000
namespace Mir
open PySem PySem.Spec PyProof.Rows L2
variable [Nm]
/-! ### errors of the program: the classes that a law's text holds -/
structure Xc where
  fault : Option Addr
  zd : Option Addr
  mal : Option Addr
  refu : Option Addr
  nt : Option Addr
def xe0 (c : Option Addr) (A : List Addr) (H : Hp) (E : XK) : Prop := ∃ a, c = some a ∧ ∀ H', Gr A H H' → E (.ref a) none H'
def xe1 (c : Option Addr) (f : Str) (v : V) (A : List Addr) (H : Hp) (E : XK) : Prop := ∃ a, c = some a ∧ ∀ d H', Gr A H H' → H' d = some (.xd [(f, v)]) → E (.ref a) (some d) H'
def XEr (C : Xc) (A : List Addr) (H : Hp) (E : XK) : Er → Prop
  | .zd => xe0 C.zd A H E
  | .mal => xe0 C.mal A H E
  | .refu r => xe1 C.refu "reason" (.str r) A H E
  | .nt i => xe1 C.nt "at" (.int i) A H E
section
variable {C : Xc} {A : List Addr} {H H' : Hp} {E : XK} {e : Er}
theorem xe0_at {c : Option Addr} {a : Addr} (h : xe0 c A H E) (e : c = some a) (g : Gr A H H') : E (.ref a) none H' := by
  obtain ⟨b, e2, h⟩ := h
  rw [e] at e2
  cases e2
  exact h H' g
theorem XEr.sub (g : Gr A H H') (h : XEr C A H E e) : XEr C [] H' E e := by
  cases e with
  | zd => obtain ⟨a, e, h⟩ := h; exact ⟨a, e, fun H2 g2 => h H2 (g.of0' g2)⟩
  | mal => obtain ⟨a, e, h⟩ := h; exact ⟨a, e, fun H2 g2 => h H2 (g.of0' g2)⟩
  | refu r => obtain ⟨a, e, h⟩ := h; exact ⟨a, e, fun d H2 g2 hd => h d H2 (g.of0' g2) hd⟩
  | nt i => obtain ⟨a, e, h⟩ := h; exact ⟨a, e, fun d H2 g2 hd => h d H2 (g.of0' g2) hd⟩
end
/-- an answer that is no error -/
def noEr {α : Type} (m : R α) : R α := match m with
  | .ok a => .ok a
  | .er _ => .out
  | .out => .out
def tryR {α : Type} (m : R α) (h : Er → R α) : R α := match m with
  | .ok a => .ok a
  | .er e => h e
  | .out => .out
@[reducible] def Er.on {ρ : Type} (e : Er) (z m : ρ) (r : Str → ρ) (n : Int → ρ) : ρ := match e with
  | .zd => z
  | .mal => m
  | .refu x => r x
  | .nt i => n i
theorem wp_noEr {α : Type} {m : R α} {P : α → Prop} {E : Er → Prop} (h : wp (noEr m) P E) : wp m P fun _ => False := by
  cases m with
  | ok a => exact h
  | er x => exact h.elim
  | out => exact h
theorem wp_bindN {α β : Type} {Q : β → Prop} {E : Er → Prop} {m : R α} {f : α → R β} (h : wp ((noEr m).bind f) Q E) : wp m (fun a => wp (f a) Q E) fun _ => False := wp_noEr (wp_bind h)
theorem wp_tryR {α : Type} {m : R α} {k : Er → R α} {P : α → Prop} {E : Er → Prop} (h : wp (tryR m k) P E) : wp m P fun e => wp (k e) P E := by
  cases m <;> exact h
theorem rd_callS {sp : Sp} {E : L2.St → XK} {l : TA} {σ : L2.St} {H : Hp} {Q : VK} (h : l σ H fun vs H1 => sp vs H1 Q (E σ)) : tCallS sp E l σ H Q := h
/-! ### try -/
def tTryOnly (K : PySem.W.Frag) (c : Value) (ts : Addr → Value → Option Addr → TS) (Wout : WX) (tb : WX → TS) : TS := fun D σ H => tb (wOnly K c ts Wout D) D σ H
theorem ps_tryOnly {X : Cx} {x : Str} {c : Value} {body suite : List Stmt} {b₀ : Stmt} {np pos pos' : Pos} {tb : WX → TS} {ts : Addr → Value → Option Addr → TS} {Wout : WX}
    (hs : X.stack = X.env :: X.outer) (hf : X.env.frame = some X.env.locals) (hc : Names X x c) (tk : Takes X Wout)
    (hb : ∀ (W : WX) (pn : List (Addr × Obj)) (xe : Value → Shared → Prop), Takes (X.tr pn xe) W → PassesOwn (model X.prog X.w) X.A X.env xe → PSs (X.tr pn xe) body (tb W))
    (hh : ∀ (a : Addr) (oe : Obj) (cls : Value) (d : Option Addr) (pn : List (Addr × Obj)), Zc cls d oe → (∃ vs, oe.data = .fields vs) → PSs (X.suite a ((a, oe) :: pn)) (b₀ :: suite) (ts a cls d)) :
    PS X (.Try body [.ExceptHandler (some (.Name x np)) none (b₀ :: suite) pos'] [] [] pos) (tTryOnly X.K c ts Wout tb) := ps_try_only hs hf hc tk hb hh
section
variable {K : PySem.W.Frag} {c : Value} {i : Nat} {ts : Addr → Value → Option Addr → TS} {Wout : WX} {tb : WX → TS} {D : Ends} {σ : L2.St} {H : Hp} {α : Type} {m : R α} {k : Er → R α} {P : α → Prop} {E : Er → Prop}
theorem rd_tryOnly (C : Xc) (rel : L2.St → Hp → Prop) (hm : wp (tryR m k) P E)
    (hs : ∀ (e : Er) σ H, rel σ H → wp (k e) P E → XEr C [] H (WE (wOnly K c ts Wout D) σ) e)
    (hb : ∀ (W : WX), (∀ (e : Er) σ H, rel σ H → wp (k e) P E → XEr C [] H (WE W σ) e) → wp m P (fun e => wp (k e) P E) → tb W D σ H) : tTryOnly K c ts Wout tb D σ H :=
  hb _ hs (wp_tryR hm)
end
/-! ### what is known of an error class without __init__ -/
structure Xk (K : PySem.W.Frag) (mg : Str → Option Value) (x : Str) (c : Addr) : Prop where
  g : mg x = some (.ref c)
  x : PySem.W.excIn K c [.type "ValueError", .type "Exception", .type "BaseException", .type "object"] "ValueError.__new__" = true
  k : PySem.W.keepIn K (.ref c) = true
  b : PySem.W.subIn K (.ref c) (.type "BaseException") = some true
  t : PySem.W.typeIn K (.ref c) = some (.type "type")
/-! ### isinstance of a caught error -/
theorem mk_X {vs : List V} {H : Hp} {Q : VK} (l : vs.length ≤ sizeLine) (q : ∀ p H', Gr [] H H' → H' p = some (.tup vs) → Q (.ref p) H') : aTup vs H Q := ⟨l, fun p n => q p _ (Gr.new n) upd_same⟩
theorem kc_of {K : PySem.W.Frag} {C : Addr} {cls : Value} {b : Bool} (h1 : PySem.W.subIn K (.ref C) (.type "BaseException") = some true) (h2 : PySem.W.hasDictIn K C = true) (h3 : PySem.W.typeIn K (.ref C) = some (.type "type")) (h4 : PySem.W.subIn K cls (.ref C) = some b) : PySem.W.kitCls K cls (.ref C) = some b := by
  have := PySem.W.exm_ref h1 h2 h3 h4
  unfold PySem.W.exmOne at this
  rw [h1] at this
  simpa using this
theorem ka_nil {K : PySem.W.Frag} {t : Value} : PySem.W.kitAny K t [] = some false := rfl
theorem ka_cons {K : PySem.W.Frag} {t c : Value} {cs : List Value} {b : Bool} (h : PySem.W.kitOne K t c = some false) (h2 : PySem.W.kitAny K t cs = some b) : PySem.W.kitAny K t (c :: cs) = some b := by
  unfold PySem.W.kitAny
  rw [h]
  exact h2
theorem ka_hit {K : PySem.W.Frag} {t c : Value} {cs : List Value} (h : PySem.W.kitOne K t c = some true) : PySem.W.kitAny K t (c :: cs) = some true := by
  unfold PySem.W.kitAny
  rw [h]
section
variable {ρ : Type} {z m : R ρ} {r : Str → R ρ} {n : Int → R ρ} {P : ρ → Prop} {E : Er → Prop} {x : Str} {i : Int}
theorem wp_on_zd (h : wp (Er.on .zd z m r n) P E) : wp z P E := h
end
end Mir
set_option Elab.async false
set_option linter.all false
set_option maxRecDepth 100000
namespace Mir
open PySem PySem.Spec PyProof.Rows L2
variable [Nm]
/-! ### any, all of a list or tuple of numbers, flags -/
end Mir
set_option Elab.async false
set_option linter.all false
set_option maxRecDepth 100000
namespace Mir
open PySem PySem.Spec PyProof.Rows L2
variable [Nm]
/-! ### what is walked, with its data -/
structure Wk {α : Type} (J : It) (xs : List α) (G : Hp → Prop) (r : Rp α) (H0 : Hp) : Prop where
  w : ∃ Y, Walk J xs.length G Y ∧ ∀ (A : List Addr) i H v H', Gr A H0 H → i < xs.length → Y i H v H' → ∃ x, xs[i]? = some x ∧ Gr [] H H' ∧ r H' x v
section
variable {α β : Type} {K : PySem.W.Frag} {r : Rp α} {s : Rp β} {H0 : Hp} {a b : Addr} {xs : List α} {ys : List β} {vs ws : List V}
theorem Paired.get1 {q : α → V → Prop} (hp : Paired q xs vs) {i : Nat} {v : V} (e : vs[i]? = some v) : ∃ x, xs[i]? = some x ∧ q x v := by
  have hi := (List.getElem?_eq_some_iff.mp e).1
  have hi' : i < xs.length := by rw [Paired.length hp]; exact hi
  exact ⟨xs[i], List.getElem?_eq_getElem hi', Paired.get2 hp e hi'⟩
theorem wk_tup [Imm r] (hp : Paired (r H0) xs vs) : Wk (Itt K a) xs (fun H => SqT K H a vs) r H0 := ⟨YAt vs, by rw [Paired.length hp]; exact walk_tup, fun A i H v H' g hi ⟨e, ev⟩ => by
  obtain ⟨x, hx, hr⟩ := Paired.get1 hp ev
  exact ⟨x, hx, by rw [e]; exact Gr.refl _, by rw [e]; exact Imm.mono g hr⟩⟩
def rngC (lo c : Int) : Nat → List Int
  | 0 => []
  | n + 1 => lo :: rngC (lo + c) c n
theorem rngC_length (lo c : Int) (n : Nat) : (rngC lo c n).length = n := by
  induction n generalizing lo with
  | zero => rfl
  | succ n ih => exact congrArg Nat.succ (ih (lo + c))
theorem rngC_get (lo c : Int) (n i : Nat) (h : i < n) : (rngC lo c n)[i]? = some (lo + (i : Nat) * c) := by
  induction n generalizing lo i with
  | zero => omega
  | succ n ih =>
    cases i with
    | zero => show some lo = _; simp
    | succ i =>
      show (rngC (lo + c) c n)[i]? = _
      rw [ih (lo + c) i (by omega)]
      congr 1
      have : ((i + 1 : Nat) : Int) * c = (i : Int) * c + c := by rw [Int.natCast_add, Int.add_mul]; simp
      omega
theorem wk_rngC {lo c : Int} {n : Nat} : Wk (Itc lo c n) (rngC lo c n) (fun _ => True) rI H0 := ⟨YFn fun i => V.int (lo + (i : Nat) * c), by rw [rngC_length]; exact walk_rangeC, fun A i H v H' g hi ⟨e, ev⟩ =>
  ⟨lo + (i : Nat) * c, rngC_get lo c n i (by rwa [rngC_length] at hi), by rw [e]; exact Gr.refl _, ev⟩⟩
def enumF (xs : List α) : List (Int × α) := (rng 0 xs.length).zip xs
theorem zip_get {i : Nat} {x : α} {y : β} (h1 : xs[i]? = some x) (h2 : ys[i]? = some y) : (xs.zip ys)[i]? = some (x, y) := by
  rw [List.getElem?_zip_eq_some]
  exact ⟨h1, h2⟩
theorem walk_zipT : Walk (RZ.ItzT K a b) (min vs.length ws.length) (fun H => SqT K H a vs ∧ SqT K H b ws) (YPair (fun i => vs[i]?) fun i => ws[i]?) := by
  refine ⟨fun i H hi ⟨h1, h2⟩ => ?_, fun H ⟨h1, h2⟩ => ?_, fun i H x H' hi ⟨h1, h2⟩ h => ?_⟩
  · exact ⟨vs, ws, vs[i]'(by omega), ws[i]'(by omega), h1, h2, by simp [List.getElem?_eq_getElem (show i < vs.length by omega)], by simp [List.getElem?_eq_getElem (show i < ws.length by omega)]⟩
  · exact ⟨vs, ws, h1, h2, by omega⟩
  · obtain ⟨T, x, y, rfl, hn, rfl, ex, ey⟩ := h
    exact ⟨T, x, y, rfl, hn, rfl, ex vs h1, ey ws h2⟩
theorem wk_zipT [Imm r] [Imm s] (hp : Paired (r H0) xs vs) (hq : Paired (s H0) ys ws) : Wk (RZ.ItzT K a b) (xs.zip ys) (fun H => SqT K H a vs ∧ SqT K H b ws) (rP K r s) H0 := ⟨_, by rw [List.length_zip, Paired.length hp, Paired.length hq]; exact walk_zipT, fun A i H v H' g hi h => by
  obtain ⟨T, x, y, rfl, hn, rfl, ex, ey⟩ := h
  obtain ⟨z, hz, hr⟩ := Paired.get1 hp ex
  obtain ⟨u, hu, hs⟩ := Paired.get1 hq ey
  exact ⟨(z, u), zip_get hz hu, Gr.new hn, T, x, y, rfl, SqT.of upd_same, Imm.mono (g.of0' (Gr.new hn)) hr, Imm.mono (g.of0' (Gr.new hn)) hs⟩⟩
end
section
variable {α σt ρ : Type} {r : Rp α} {J : It} {G : Hp → Prop} {xs : List α} {H0 H : Hp} {g : TG} {tb : TS} {D : Ends} {σ : L2.St} {s0 : σt} {E : Er → Prop}
theorem for_R (w : Wk J xs G r H0) {f : σt → α → R σt} (rel : σt → L2.St → Hp → Prop)
    (hm : wp (foldR f s0 xs) (fun s => ∀ σ H, rel s σ H → D.nx σ H) E) (h0 : rel s0 σ H) (hG : ∀ s σ H, rel s σ H → G H ∧ ∃ A, Gr A H0 H)
    (hs : ∀ (x : α) (v : V) (s : σt) (σ : L2.St) (H H' : Hp) (N : L2.St → Hp → Prop), rel s σ H → Gr [] H H' → r H' x v → wp (f s x) (fun s' => ∀ σ' H', rel s' σ' H' → N σ' H') E →
      g v σ H' fun σ2 H2 => tb { D with nx := N, ct := N, bk := D.nx } σ2 H2) :
    ∃ W : Nat → Nat → L2.St → Hp → Prop, (∃ m, W 0 m σ H) ∧ ∀ i m σ H, W i m σ H →
      (J.stop i H ∧ D.nx σ H) ∨ (J.go i H ∧ ∃ N : L2.St → Hp → Prop, (∀ σ' H', N σ' H' → ∃ m', m' < m ∧ W (i + 1) m' σ' H') ∧ ∀ x H', J.yld i H x H' → g x σ H' fun σ2 H2 => tb { D with nx := N, ct := N, bk := D.nx } σ2 H2) := by
  obtain ⟨Y, wa, hy⟩ := w
  refine for_it wa (fun i σ H => ∃ s, rel s σ H ∧ wp (foldR f s (xs.drop i)) (fun s => ∀ σ H, rel s σ H → D.nx σ H) E) ⟨s0, h0, hm⟩ (fun i σ H _ ⟨s, hr, _⟩ => (hG s σ H hr).1) ?_ ?_
  · rintro i v σ H H' hi ⟨s, hr, hw⟩ y
    obtain ⟨A, ga⟩ := (hG s σ H hr).2
    obtain ⟨x, hx, g', hv⟩ := hy A i H v H' ga hi y
    have hw := foldR_step hi hw
    have e : xs[i] = x := by rw [List.getElem?_eq_getElem hi] at hx; exact Option.some.inj hx
    rw [e] at hw
    exact hs x v s σ H H' _ hr g' hv (wp_imp hw (fun s' hs' => fun σ' H' r' => ⟨s', r', hs'⟩) fun _ e => e)
  · rintro σ H ⟨s, hr, hw⟩
    exact foldR_end (Nat.le_refl _) hw σ H hr
theorem lc_R (w : Wk J xs G r H0) {f : σt → α → R σt} {Z : σt → Prop} {tt : TT} {te : TE} {own : List Nat} {H1 : Hp} {D : Addr} {Qd : Hp → Prop} (rel : σt → Hp → Prop)
    (hm : wp (foldR f s0 xs) Z E) (h0 : rel s0 (upd H1 D (.lst []))) (hG : ∀ s H, rel s H → G H ∧ ∃ A, Gr A H0 H)
    (hs : ∀ (x : α) (v : V) (s : σt) (H H' : Hp) (Nx : Hp → Prop), rel s H → Gr [] H H' → r H' x v → wp (f s x) (fun s' => ∀ H', rel s' H' → Nx H') E →
      g v (wipe σ own) H' fun σ2 H2 => wipe σ2 own = wipe σ own ∧ tt σ2 H2 fun b H3 => if b = true then te σ2 H3 fun y H4 => ∃ acc, H4 D = some (.lst acc) ∧ acc.length < sizeLine ∧ Nx (upd H4 D (.lst (acc ++ [y]))) else Nx H3)
    (hd : ∀ s H, rel s H → Z s → Qd H) :
    ∃ W : Nat → Nat → Hp → Prop, (∃ m, W 0 m (upd H1 D (.lst []))) ∧ ∀ i m H, W i m H →
      (J.stop i H ∧ Qd H) ∨ (J.go i H ∧ ∃ Nx : Hp → Prop, (∀ H', Nx H' → ∃ m', m' < m ∧ W (i + 1) m' H') ∧ ∀ x H', J.yld i H x H' → g x (wipe σ own) H' fun σ2 H2 => wipe σ2 own = wipe σ own ∧ tt σ2 H2 fun b H3 =>
        if b = true then te σ2 H3 fun y H4 => ∃ acc, H4 D = some (.lst acc) ∧ acc.length < sizeLine ∧ Nx (upd H4 D (.lst (acc ++ [y]))) else Nx H3) := by
  obtain ⟨Y, wa, hy⟩ := w
  refine lc_it wa (fun i H => ∃ s, rel s H ∧ wp (foldR f s (xs.drop i)) Z E) ⟨s0, h0, hm⟩ (fun i H _ ⟨s, hr, _⟩ => (hG s H hr).1) ?_ ?_
  · rintro i v H H' hi ⟨s, hr, hw⟩ y
    obtain ⟨A, ga⟩ := (hG s H hr).2
    obtain ⟨x, hx, g', hv⟩ := hy A i H v H' ga hi y
    have hw := foldR_step hi hw
    have e : xs[i] = x := by rw [List.getElem?_eq_getElem hi] at hx; exact Option.some.inj hx
    rw [e] at hw
    exact hs x v s H H' _ hr g' hv (wp_imp hw (fun s' hs' => fun H' r' => ⟨s', r', hs'⟩) fun _ e => e)
  · rintro H ⟨s, hr, hw⟩
    exact hd s H hr (foldR_end (Nat.le_refl _) hw)
end
end Mir
namespace Mir
open PySem PySem.Spec PyProof.Rows L2
variable [Nm]
section
variable {K : PySem.W.Frag} {σ : L2.St} {H : Hp} {l : TA} {R : It → Hp → Prop}
theorem rd_gtE {n : Nat} {g : TGs} {a : Addr} {u : V} {xs : List V} {Q : L2.St → Hp → Prop} (eu : u = .ref a) (h : SqT K H a xs) (e : xs.length = n) (q : g xs σ H Q) : gTup K n g u σ H Q := ⟨a, xs, eu, h, e, q⟩
theorem rd_r3 (h : l σ H fun vs H1 => ∃ i j c n, vs = [.int i, .int j, .int c] ∧ RgC i j c n ∧ R (Itc i c n) H1) : iRng3 l σ H R := h
def zipA (K : PySem.W.Frag) (R : It → Hp → Prop) (vs : List V) (H1 : Hp) : Prop := ∃ a b xs ys, vs = [.ref a, .ref b] ∧ ((SqL K H1 a xs ∧ SqL K H1 b ys ∧ R (Itz K a b) H1) ∨ (SqT K H1 a xs ∧ SqT K H1 b ys ∧ R (RZ.ItzT K a b) H1))
theorem rd_izip (h : l σ H (zipA K R)) : RZ.iZipA K l σ H R := h
theorem zip_t {u v : V} {a b : Addr} {xs ys : List V} (e1 : u = .ref a) (e2 : v = .ref b) (h1 : SqT K H a xs) (h2 : SqT K H b ys) (h : R (RZ.ItzT K a b) H) : zipA K R [u, v] H := ⟨a, b, xs, ys, by rw [e1, e2], .inr ⟨h1, h2, h⟩⟩
end
/-- the turns of a range with a step -/
def rg3n (i j c : Int) : Nat := (Builtin.Range.rangeSize i j c).toNat
def rg3Ok (i j c : Int) : Prop := c ≠ 0 ∧ c.natAbs < 1073741824 ∧ Builtin.Range.small i j c = true ∧ 0 ≤ Builtin.Range.rangeSize i j c
instance (i j c : Int) : Decidable (rg3Ok i j c) := inferInstanceAs (Decidable (_ ∧ _))
theorem rg3_of {i j c : Int} (h : rg3Ok i j c) : RgC i j c (rg3n i j c) := ⟨h.1, h.2.1, h.2.2.1, by unfold rg3n; have := h.2.2.2; omega⟩
section
variable {α β γ : Type} {K : PySem.W.Frag} {r : Rp α} {s : Rp β} {t : Rp γ} {H : Hp} {a : Addr} {v : V} {i : Int} {Q : VK} {E : Er → Prop} {xs : List α}
/-- an item of a pair, of three, by a written place -/
theorem ix_P2 {x : α × β} {P : V → Prop} (j : Nat) (h : rP K r s H x v) (e : ixN 2 i = some j) (hp : ∀ (a : Addr) (y z : V), r H x.1 y → s H x.2 z → ∃ w, [y, z][j]? = some w ∧ P w) (q : ∀ w, P w → Q w H) : rIxT K v (.int i) H Q := by
  obtain ⟨a, y, z, rfl, h1, h2, h3⟩ := h
  obtain ⟨w, hw, pw⟩ := hp a y z h2 h3
  exact ⟨a, [y, z], i, w, rfl, rfl, h1, by show (ixN 2 i).bind _ = _; rw [e]; exact hw, q w pw⟩
theorem ix_P21 {x : α × β} (h : rP K r s H x v) (e : ixN 2 i = some 1) (q : ∀ w, s H x.2 w → Q w H) : rIxT K v (.int i) H Q := ix_P2 1 h e (fun _ y z _ h => ⟨z, rfl, h⟩) q
/-- the last item taken away -/
def popL (xs : List α) : R (α × List α) := match xs[xs.length - 1]? with
  | some x => .ok (x, xs.dropLast)
  | none => .out
theorem Paired.dropLast {q : α → V → Prop} : ∀ {xs : List α} {vs : List V}, Paired q xs vs → Paired q xs.dropLast vs.dropLast
  | _, _, .nil => .nil
  | _, _, .cons _ .nil => .nil
  | _, _, .cons h (.cons h2 t) => .cons h (Paired.dropLast (.cons h2 t))
end
end Mir
namespace Mir
open PySem PySem.Spec PyProof.Rows L2
variable [Nm]
/-! ### rules whose reading names the frozen part: it is told -/
section
variable {X : Cx} {K : PySem.W.Frag}
theorem ix_listK (e : X.K = K) : IxR X (rIxL K) := e ▸ ix_list
theorem ix_tupK (e : X.K = K) : IxR X (rIxT K) := e ▸ ix_tup
theorem sl_listK (e : X.K = K) : SlR X (rSlL K) := e ▸ sl_list
theorem isiK (e : X.K = K) : CallR X (.builtin "isinstance") (rIsi K) := e ▸ call_isi
theorem eqDK (h : X.A.units + 64 < cLine) (e : X.K = K) : OpR X (compareOp .Eq) (rEqD K) := e ▸ op_eqD h
theorem neDK (h : X.A.units + 64 < cLine) (e : X.K = K) : OpR X (compareOp .NotEq) (rNeD K) := e ▸ op_neD h
theorem lenK (e : X.K = K) : CallR X (.builtin "len") (fun xs H Q => ∃ p ys, xs = [.ref p] ∧ (SqL K H p ys ∨ SqT K H p ys) ∧ Q (.int ys.length) H) := e ▸ call_len_seq
theorem tupleK (e : X.K = K) : CallR X (.type "tuple") (fun xs H Q => ∃ p ys, xs = [.ref p] ∧ ((SqL K H p ys ∧ ∀ l : Addr, H l = none → Q (.ref l) (upd H l (.tup ys))) ∨ SqT K H p ys ∧ Q (.ref p) H)) := e ▸ call_tuple_of
theorem listK (e : X.K = K) : CallR X (.type "list") (fun xs H Q => ∃ p ys, xs = [.ref p] ∧ (SqL K H p ys ∨ SqT K H p ys) ∧ ∀ l : Addr, H l = none → Q (.ref l) (upd H l (.lst ys))) := e ▸ call_list_of
end
end Mir
namespace Mir
open PySem PySem.Spec PyProof.Rows L2
variable [Nm]
section
variable {X : Cx} {K : PySem.W.Frag}
theorem pi_listK {tg l : Expr} {tl : TE} (h : PE X l tl) (e : X.K = K) : PI X tg l (iList K tl) := e ▸ pi_list h
theorem pi_tupK {tg l : Expr} {tl : TE} (h : PE X l tl) (e : X.K = K) : PI X tg l (iTup K tl) := e ▸ pi_tup h
theorem pi_zipK {e1 e2 : Expr} {ta : TA} {p pos tpos : Pos} {elts : List Expr} {kk : Nat} (hg : Gl X "zip") (hm : X.mg "zip" = none) (ha : PA X [e1, e2] ta) (e : X.K = K)
    (he : starEach [e1, e2] X.env = (false, eval e1 X.env) :: starEach [e2] X.env := by rfl) (hpl : (backTo pos (starEach [e2] X.env)).any (·.1) = false := by rfl) :
    PI X (.Tuple elts kk tpos) (.Call (.Name "zip" p) [e1, e2] [] pos) (RZ.iZipA K ta) := e ▸ RZ.pi_zipA hg hm ha he hpl
end
end Mir
namespace Mir
open PySem PySem.Spec PyProof.Rows L2
variable [Nm]
end Mir
namespace Mir
open PySem PySem.Spec PyProof.Rows L2
variable [Nm]
/-! ### a list that is put into something stands still from then on -/
def tFrz (t : TE) : TE := fun σ H Q => t σ H fun v H1 => ∃ a u, v = .ref a ∧ H1 a = some u ∧ Mut (some u) ∧ ∀ od, Q v (upd H1 a (.frz od u))
theorem pe_frz {X : Cx} {e : Expr} {t : TE} (h : PE X e t) : PE X e (tFrz t) := ⟨fun pins s σ H Q I hw => thn (h.run pins s σ H _ I hw) fun v s1 hh => by
  obtain ⟨x, H1, I1, r, a, u, rfl, ha, mu, q⟩ := hh
  obtain ⟨od, I2⟩ := I1.lock ha mu
  exact ⟨.ref a, _, I2, r, q od⟩⟩
section
variable {α : Type} {K : PySem.W.Frag} {r : Rp α} {H H' : Hp} {a b : Addr} {xs : List α} {vs : List V} {v : V} {Q : VK}
/-- a list that stands still -/
def rZ (r : Rp α) : Rp (List α) := fun H xs v => ∃ a o vs, v = .ref a ∧ H a = some (.frz o (.lst vs)) ∧ Paired (r H) xs vs
instance [Imm r] : Imm (rZ r) := ⟨fun g ⟨a, o, vs, e, h, h2⟩ => ⟨a, o, vs, e, g _ _ h rfl, Paired.im g h2⟩⟩
theorem Im.frz {o : Obj} {u : HO} (h : H a = some u) (k : kd u ≠ 0) : Im H (upd H a (.frz o u)) := fun b w q z => by
  by_cases e : b = a
  · subst e
    rw [h] at q
    cases q
    exact absurd z k
  · rw [upd_ne e]
    exact q
/-- what the freezing of the list at a leaves of the rest -/
structure Fz (a : Addr) (H H' : Hp) : Prop where
  im : Im H H'
  ne : ∀ b o, b ≠ a → H b = some o → H' b = some o
  at_ : H' a ≠ none
def frzA (Q : VK) (v : V) (H1 : Hp) : Prop := ∃ b u, v = .ref b ∧ H1 b = some u ∧ Mut (some u) ∧ ∀ od, Q v (upd H1 b (.frz od u))
/-- the form that a printed text uses: the value is a list of its own at hand -/
theorem fz_L [Imm r] (h : Ls r H a xs) (q : ∀ H2, Fz a H H2 → rZ r H2 xs (.ref a) → Q (.ref a) H2) : frzA Q (.ref a) H := by
  obtain ⟨vs, h1, h2⟩ := h
  have g : ∀ od, Im H (upd H a (.frz od (.lst vs))) := fun od => Im.frz h1 (by show 1 ≠ 0; decide)
  exact ⟨a, _, rfl, h1, trivial, fun od => q _ ⟨g od, fun b o n hb => by rw [upd_ne n]; exact hb, by rw [upd_same]; intro z; cases z⟩ ⟨a, od, vs, rfl, upd_same, Paired.im (g od) h2⟩⟩
theorem rd_frzE {t : TE} {σ : L2.St} (h : t σ H (frzA Q)) : tFrz t σ H Q := h
theorem Ls.fz [Imm r] (g : Fz a H H') (n : b ≠ a) (h : Ls r H b xs) : Ls r H' b xs := let ⟨vs, h1, h2⟩ := h; ⟨vs, g.ne _ _ n h1, Paired.im g.im h2⟩
theorem Gr.fz {A : List Addr} {H0 : Hp} (g : Gr A H0 H) (n : H0 a = none) (f : Fz a H H') : Gr A H0 H' := ⟨fun b o h => by
  obtain ⟨o', h1, h2⟩ := g.ob b o h
  exact ⟨o', f.ne _ _ (fun e => by rw [e, n] at h; cases h) h1, h2⟩, fun P t => by
  obtain ⟨ps, h1, h2, h3⟩ := g.tb P t
  refine ⟨ps, f.ne _ _ (fun e => ?_) h1, h2, fun pos cv hc => ?_⟩
  · obtain ⟨_, t1, _⟩ := t
    rw [e, n] at t1
    cases t1
  · obtain ⟨c, e1, e2⟩ := h3 pos cv hc
    exact ⟨c, e1, f.im _ _ e2 kd_code⟩⟩
end
end Mir
set_option Elab.async false
set_option linter.all false
set_option maxRecDepth 100000
namespace Mir
open PySem PySem.Spec PyProof.Rows L2 NdefX
variable [Nm]
open LamX (CodeO TabB)
/-! ### lambdas with parameters, handed to a def -/
/-- the words of a lambda -/
structure LW where
  qual : Str
  params : Arguments
  body : Expr
  scope : Scope
abbrev LW.nf (L : LW) (cl : List (Str × Addr)) (c : Addr) : NF := ⟨"<lambda>", L.qual, L.params, [], L.scope, cl, c⟩
/-- the object at f is the lambda -/
def LamObj (L : LW) (f c : Addr) (cl : List (Str × Addr)) (h : Heap) : Prop := ∃ pm ctv : Value, h.get? f = some (PySem.W.kla_obj "<lambda>" L.qual L.params L.body L.scope cl pm c ctv)
/-- what a lambda promises: sp ws, ws what its captured cells hold -/
structure LOk (P : Program) (w : World) (K : PySem.W.Frag) (mg : Str → Option Value) (base : Heap) (CX : CXT) (k : Nat) (L : LW) (ps fr : List Str) (sp : List (Option V) → Sp) : Prop where
  len : ∀ ws vs H Q E, sp ws vs H Q E → vs.length = ps.length
  run : ∀ (A : Around) (outer : List Env) (s : Shared) (H : Hp) (us : List Value) (vs : List V) (ws : List (Option V)) (Q : VK) (E : XK) (f c : Addr) (cl : List (Str × Addr)), Room k A → Env0 P w K mg base A outer s H → LamObj L f c cl s.heap → H c = some (CodeO c L.qual) →
    CellsAt cl fr ws s.heap H → Vals vs us → sp ws vs H Q E → codeAny (model P w) A (.call (.ref f) ⟨us, []⟩) (CR CX outer P w H s Q E) s
section
variable {CX : CXT} {P : Program} {w : World} {K : PySem.W.Frag} {mg : Str → Option Value} {base : Heap} {N ps fr : List Str} {L : LW} {k j : Nat} {sp : List (Option V) → Sp}
theorem LOk.mono (o : LOk P w K mg base CX j L ps fr sp) (h : j ≤ k) : LOk P w K mg base CX k L ps fr sp := ⟨o.len, fun A outer s H us vs ws Q E f c cl hr => o.run A outer s H us vs ws Q E f c cl (hr.mono h)⟩
theorem lok_of (S : NScope N ps fr L.scope) (hb : ∀ (cl : List (Str × Addr)) (pm cv ctv : Value) (us : List Value), us.length = ps.length → bindArgs (PySem.W.kla_fn "<lambda>" L.qual L.params L.body L.scope cl pm cv ctv) ⟨us, []⟩ = pure (ps.zip us))
    (len : ∀ ws vs H Q E, sp ws vs H Q E → vs.length = ps.length)
    (hbody : ∀ (A : Around) (outer : List Env) (s : Shared) (H : Hp) (vs : List V) (ws : List (Option V)) (Q : VK) (E : XK) (f c : Addr) (cl : List (Str × Addr)), Room k (A.deeper (envF (L.nf cl c) f s.heap.objs.size)) → sp ws vs H Q E →
      ∃ t : TE, PE (ncx CX P w K mg base N (L.nf cl c) f A outer s H E) L.body t ∧ t (startF N vs ws) H Q) :
    LOk P w K mg base CX (k + 1) L ps fr sp := by
  refine ⟨len, fun A outer s H us vs ws Q E f c cl hr e0 hf hc C r hsp => ?_⟩
  have hl := len _ _ _ _ _ hsp
  have lim : s.heap.NoLimit := e0.mod.nolimit.keeps fun b o e => (e0.bs b o e).1
  obtain ⟨pm, ctv, ho⟩ := hf
  refine PySem.W.kla_callFunE hr.depth ho rfl S.co S.gen rfl (codeO_at e0.hok hc) ?_
  rw [hb cl pm _ ctv us (by rw [← r.length]; exact hl)]
  refine wpAny_pure (wpAny_newFunctionEnv S.nocell (fun ⟨n, _⟩ hy => S.par n (List.of_mem_zip hy).1) (fun h₁ hns hsb => ⟨lim.fresh _ hsb, ?_⟩) S.kind)
  show codeAny _ _ (.expr L.body (envF (L.nf cl c) f s.heap.objs.size)) _ _
  have kp : ∀ b o, s.heap.get? b = some o → h₁.get? b = some o := fun b o e => hsb.extBut b o (Nat.ne_of_lt (Heap.lt_size e)) (Heap.get?_push_of_some _ e)
  obtain ⟨t, ht, hq⟩ := hbody A outer s H vs ws Q E f c cl (hr.deeper _) hsp
  have I : Inv (ncx CX P w K mg base N (L.nf cl c) f A outer s H E) [] (startF N vs ws) H { s with heap := h₁, toks := s.toks + (ps.zip us).length } := inv_startN S hr.hd e0 hl r C hns kp
  refine PySem.W.kla_codeExpr (wpAny_mono (ht.run [] _ (startF N vs ws) H _ I hq) (fun v s' hs => ?_) fun e s' hs => hs)
  obtain ⟨w', H', J, rv, q⟩ := hs
  exact ⟨w', H', J.os, J.bare, J.base, J.hok, rv, q⟩
end
/-- the lambda at the entry of the def that got it -/
structure LamEnt (L : LW) (f c : Addr) (cl : List (Str × Addr)) (fr : List Str) (ws : List (Option V)) (fs : List Addr) (s : Shared) (H : Hp) : Prop where
  obj : LamObj L f c cl s.heap
  fn : H f = none
  nfr : f ∉ fs
  cells : CellsAt cl fr ws s.heap H
section
variable {X : Cx} {pins : List (Addr × Obj)} {σ : L2.St} {H : Hp} {s : Shared} {cl : List (Str × Addr)} {fr : List Str} {ws : List (Option V)} {L : LW} {f c : Addr}
theorem cells_later (C : CellsAt cl fr ws X.s_0.heap X.H_0) (hx : X.ex = []) (I : Inv X pins σ H s) : CellsAt cl fr ws s.heap H := by
  have nx : ∀ b : Addr, b ∉ X.ex := fun b z => by
    rw [hx] at z
    exact absurd z (by simp)
  have kp : ∀ y c, cl.lookup y = some c → ∀ v, X.s_0.heap.IsCell c v → s.heap.IsCell c v := fun y c e v ⟨o, ho, hd⟩ => by
    obtain ⟨sl, q⟩ := I.base.any ho (C.all y c e).1 (nx c)
    exact ⟨_, q, hd⟩
  refine ⟨C.len, fun y c e => ?_, C.inj, fun i y e => ?_⟩
  · obtain ⟨n, v, z⟩ := C.all y c e
    refine ⟨?_, v, kp y c e v z⟩
    obtain ⟨o, ho, _⟩ := z
    exact I.base.free c o ho n (nx c)
  · obtain ⟨c, hc, hv⟩ := C.has i y e
    refine ⟨c, hc, fun v ev => ?_⟩
    obtain ⟨u, r, z⟩ := hv v ev
    exact ⟨u, r, kp y c hc _ z⟩
theorem obj_later (T : LamEnt L f c cl fr ws X.fs X.s_0 X.H_0) (hx : X.ex = []) (I : Inv X pins σ H s) : LamObj L f c cl s.heap := by
  obtain ⟨pm, ctv, ho⟩ := T.obj
  exact ⟨pm, ctv, I.base.keep f _ ho T.fn T.nfr fun z => by
    rw [hx] at z
    exact absurd z (by simp)⟩
theorem lam_fnAt {h : Heap} (o : LamObj L f c cl h) : PySem.W.FnAt f h := by
  obtain ⟨pm, ctv, ho⟩ := o
  exact ⟨_, _, _, _, ho⟩
end
/-- x(..), x a name that holds the lambda -/
def tAct (i : Nat) (f c : Addr) (q : Str) (sp : Sp) (E : L2.St → XK) (t : TA) : TE := fun σ H Q => σ[i]? = some (some (.ref f)) ∧ t σ H fun vs H1 => H1 c = some (CodeO c q) ∧ sp vs H1 Q (E σ)
section
variable {X : Cx} {CX : CXT} {cl : List (Str × Addr)} {ps fr : List Str} {ws : List (Option V)} {i j k : Nat} {x : Str} {L : LW} {f c : Addr} {sp : List (Option V) → Sp} {E : L2.St → XK} {t : TA} {e : Expr} {es : List Expr} {p pos : Pos}
theorem pe_act (T : LamEnt L f c cl fr ws X.fs X.s_0 X.H_0) (hX : X.ex = []) (O : LOk X.prog X.w X.K X.mg X.base CX k L ps fr sp) (hr : Room j X.A) (hk : k ≤ j) (hx : ∀ σ, PassesAt CX X σ (E σ)) (hN : X.N[i]? = some x) (hv : Vis X.env.scope x) (ha : PA X (e :: es) t)
    (hd : (x == ("__debug__" : Str)) = false := by decide) (hcd : (x == ("__classdict__" : Str)) = false := by decide)
    (he : starEach (e :: es) X.env = (false, eval e X.env) :: starEach es X.env := by rfl) (hpl : (backTo pos (starEach es X.env)).any (·.1) = false := by rfl) :
    PE X (.Call (.Name x p) (e :: es) [] pos) (tAct i f c L.qual (sp ws) E t) := by
  refine ⟨fun pins s σ H Q I h => ?_⟩
  obtain ⟨hs, ht⟩ := h
  refine wpAny_Call_Name_kw (thn ((pe_var (pos := p) hN hv hd hcd).run pins s σ H (fun v H1 => v = .ref f ∧ H1 = H) I ⟨.ref f, hs, rfl, rfl⟩) fun u s1 ⟨v, H1, I1, r1, q1⟩ => ?_)
  obtain ⟨ev, eH⟩ := q1
  subst ev
  rw [eH] at I1
  obtain rfl : u = Value.ref f := r1
  refine PySem.W.callWith_F (first := []) (lam_fnAt (obj_later T hX I1)) (thn (ha.run pos pins s1 σ H _ I1 ht) fun us s2 ⟨vs, H2, I2, r, h2, q⟩ => ⟨lam_fnAt (obj_later T hX I2), ?_⟩) he hpl
  show wpAny _ _ (call (.ref f) us) _ _ _
  refine wpAny_call (codeAny_mono (O.run X.A X.stack s2 H2 us vs ws Q (E σ) f c cl (hr.mono hk) I2.env0 (obj_later T hX I2) h2 (cells_later T.cells hX I2) r q) fun r s' hq => ?_)
  cases r with
  | error e => exact hx σ pins H2 s2 e s' I2 hq
  | ok fl =>
    cases fl with
    | ret u => exact I2.after hq
    | next => exact False.elim hq
    | brk => exact False.elim hq
    | cont => exact False.elim hq
end
/-! ### the def that gets the lambda -/
/-- its promise, told of the very state: the lambda's object stands there, its captured cells hold ws -/
structure FnOkC (P : Program) (w : World) (K : PySem.W.Frag) (mg : Str → Option Value) (base : Heap) (CX : CXT) (k : Nat) (f : Addr) (fd : FuncData) (ps : List Str) (L : LW) (fr : List Str) (sp : Addr → Addr → List (Option V) → Sp) : Prop where
  len : ∀ lf lc ws vs H Q E, sp lf lc ws vs H Q E → vs.length = ps.length
  run : ∀ (A : Around) (outer : List Env) (s : Shared) (H : Hp) (args : Args) (us : List Value) (vs : List V) (Q : VK) (E : XK) (lf lc : Addr) (cl : List (Str × Addr)) (ws : List (Option V)), Room k A → Env0 P w K mg base A outer s H → LamEnt L lf lc cl fr ws (frs outer) s H →
    BindsTo s fd args (ps.zip us) → Vals vs us → sp lf lc ws vs H Q E → codeAny (model P w) A (.call (.ref f) args) (CR CX outer P w H s Q E) s
def CalC (P : Program) (w : World) (K : PySem.W.Frag) (mg : Str → Option Value) (base : Heap) (CX : CXT) (k : Nat) (x : Str) (ps : List Str) (L : LW) (fr : List Str) (sp : Addr → Addr → List (Option V) → Sp) : Prop :=
  ∃ (f : Addr) (fd : FuncData), FnOkC P w K mg base CX k f fd ps L fr sp ∧ mg x = some (.ref f) ∧ PySem.W.keepIn K (.ref f) = true ∧ Binds K fd ps []
section
variable {P : Program} {w : World} {K : PySem.W.Frag} {mg : Str → Option Value} {base : Heap} {L : LW} {fr : List Str}
theorem fun_okC {CX : CXT} {x qual : Str} {st : Stmt} {f : Addr} {fd : FuncData} {N ps : List Str} {k : Nat} {sp : Addr → Addr → List (Option V) → Sp} (F : Fun K x qual st f fd) (S : FnScope N ps (defScope st)) (len : ∀ lf lc ws vs H Q E, sp lf lc ws vs H Q E → vs.length = ps.length)
    (hbody : ∀ (cdv : Value) (A : Around) (outer : List Env) (s : Shared) (H : Hp) (vs : List V) (Q : VK) (E : XK) (lf lc : Addr) (cl : List (Str × Addr)) (ws : List (Option V)), Room k (A.deeper (envOfC qual (defScope st) s.heap.objs.size f cdv)) → LamEnt L lf lc cl fr ws (frs outer) s H → sp lf lc ws vs H Q E →
      ∃ t, PSs (cxOf CX P w K mg base N qual (defScope st) f cdv A outer s H E) (defBody st) t ∧ t { nx := fun _ H' => Q .non H', rt := Q } (start N vs) H) : FnOkC P w K mg base CX (k + 1) f fd ps L fr sp := by
  obtain ⟨oc, od, kV, doc, pm, an, cdv, ct, osl, rfl, lk, hcd⟩ := F.ex
  exact ⟨len, fun A outer s H args us vs Q E lf lc cl ws hr e0 T hb r hsp => LamX.run_ofS lk hcd S hr e0 hb r (len _ _ _ _ _ _ _ hsp) fun hr' => hbody cdv A outer s H vs Q E lf lc cl ws hr' T hsp⟩
end
/-! ### the maker -/
/-- a def that makes lambdas: as Fun, and its code object at c has the table P -/
structure FunT (K : PySem.W.Frag) (x qual : Str) (st : Stmt) (f : Addr) (fd : FuncData) (c P : Addr) : Prop where
  ex : ∃ (oc : Value) (od : Option Addr) (kV doc pm : Value) (an : Option Addr) (ct : Value) (osl : Array (Option Value)),
    fd = PySem.W.fnOf x qual (defArgs st) (defBody st) (defScope st) .none kV doc pm an (.ref c) ct ∧ K.lookup f = some ⟨oc, od, .func fd, osl⟩ ∧ PySem.W.codeIn K (.ref c) qual = true
section
variable {P : Program} {w : World} {K : PySem.W.Frag} {mg : Str → Option Value} {base : Heap}
theorem funT_okX {x qual : Str} {st : Stmt} {f c PT : Addr} {fd : FuncData} {N ps : List Str} {k : Nat} {sp : Sp} (F : FunT K x qual st f fd c PT) (S : FnScope N ps (defScope st)) (len : ∀ vs H Q E, sp vs H Q E → vs.length = ps.length)
    (hbody : ∀ (A : Around) (outer : List Env) (s : Shared) (H : Hp) (vs : List V) (Q : VK) (E : XK), Room k (A.deeper (envOfC qual (defScope st) s.heap.objs.size f (.ref c))) → sp vs H Q E →
      ∃ t, PSs (cxOf (L2.CX P w) P w K mg base N qual (defScope st) f (.ref c) A outer s H E) (defBody st) t ∧ t { nx := fun _ H' => Q .non H', rt := Q } (start N vs) H) : FnOk P w K mg base (L2.CX P w) (k + 1) f fd ps sp := by
  obtain ⟨oc, od, kV, doc, pm, an, ct, osl, rfl, lk, hcd⟩ := F.ex
  exact fn_of lk hcd S len fun A outer s H vs Q E hr hsp => hbody A outer s H vs Q E hr hsp
end
/-- the arguments, the last one a lambda -/
def LP (X : Cx) (L : LW) (pins : List (Addr × Obj)) (σ : L2.St) (Q : Addr → Addr → List V → Hp → Prop) (us : List Value) (s' : Shared) : Prop := ∃ lf lc vs H', Inv X pins σ H' s' ∧ Vals vs us ∧ LamObj L lf lc (cloFrom X.env.cells L.scope.names []) s'.heap ∧ H' lf = none ∧ lf ∉ frs X.stack ∧ Q lf lc vs H'
abbrev TL := L2.St → Hp → (Addr → Addr → List V → Hp → Prop) → Prop
structure PL (X : Cx) (L : LW) (es : List Expr) (t : TL) : Prop where
  run : ∀ (pos : Pos) (pins : List (Addr × Obj)) (s : Shared) (σ : L2.St) (H : Hp) (Q : Addr → Addr → List V → Hp → Prop), Inv X pins σ H s → t σ H Q → wpAny (model X.prog X.w) X.A (spliced (backTo pos (starEach es X.env))) (LP X L pins σ Q) X.xe s
def tlNil (P : Addr) (q : Str) : TL := fun _ H Q => TabN H P Nm.nm ∧ ∀ lf lc H1, Gr [] H H1 → H1 lc = some (CodeO lc q) → Q lf lc [.ref lf] H1
def tlCons (ta : TE) (t : TL) : TL := fun σ H Q => ta σ H fun x H1 => t σ H1 fun lf lc xs H2 => Q lf lc (x :: xs) H2
section
variable {X : Cx} {CX : CXT} {L : LW} {e : Expr} {es : List Expr} {te : TE} {t : TL} {c PT : Addr} {params : Arguments} {body : Expr} {scope : Scope} {lpos : Pos}
theorem pl_nil (TB : TabB X.base X.mg c PT) (hcode : X.env.code = .ref c) (hq : L.qual = X.env.qual ++ "<lambda>") (hnm : Nm.nm lpos.line lpos.col = L.qual) (hdef : defaultsOf L.params X.env = ([], [])) (hfree : ∀ y ∈ L.scope.names, y.2 = .free → X.env.scope.names.lookup y.1 = some .cell ∨ X.env.scope.names.lookup y.1 = some .free)
    (hs : starEach [.Lambda L.params L.body L.scope lpos] X.env = (false, eval (.Lambda L.params L.body L.scope lpos) X.env) :: starEach [] X.env := by rfl) :
    PL X L [.Lambda L.params L.body L.scope lpos] (tlNil PT L.qual) := by
  refine ⟨fun pos pins s σ H Q I h => ?_⟩
  rw [hs]
  show wpAny _ _ (spliced ((false, eval (.Lambda L.params L.body L.scope lpos) X.env) :: backTo pos (starEach [] X.env))) _ _ s
  obtain ⟨⟨tab, hP, tok, known⟩, hgo⟩ := h
  have fin : ∀ (f c' : Addr) (pm ctv : Value) (H1 : Hp) (s' : Shared), Inv X pins σ H1 s' → Gr [] H H1 → s'.heap.get? f = some (PySem.W.kla_obj "<lambda>" L.qual L.params L.body L.scope (cloFrom X.env.cells L.scope.names []) pm c' ctv) → H1 f = none → s.heap.objs.size ≤ f → H1 c' = some (CodeO c' L.qual) →
      wpAny (model X.prog X.w) X.A (spliced []) (fun us s2 => LP X L pins σ Q (.ref f :: us) s2) X.xe s' := fun f c' pm ctv H1 s' I1 g hf hn hge hco =>
    Calls.spliced_nil ⟨f, c', [.ref f], H1, I1, .cons rfl .nil, ⟨pm, ctv, hf⟩, hn, fun z => by
      rcases List.mem_cons.mp (I.stkSub _ z) with e | e
      · have h1 := I.lt
        rw [← e] at h1
        exact Nat.lt_irrefl _ (Nat.lt_of_lt_of_le h1 hge)
      · exact I.nofs hge e, hgo f c' H1 g hco⟩
  have cfr : closureFor L.scope X.env = pure (cloFrom X.env.cells L.scope.names []) := closure_ok fun y hy e => (hfree y hy e).elim (fun z => I.ok.has _ (.inl z)) fun z => I.ok.has _ (.inr z)
  refine Calls.spliced_cons (PySem.W.kla_eval hdef ?_)
  have bmP := TB.bm.keeps I.bk
  have at0 : s.heap.get? PT = some { cls := .none, data := .fields tab } := I.hok PT _ hP
  rw [← hq]
  by_cases hn : codeAmong lpos tab.toList = none
  · refine PySem.W.kla_makeFunction (mg := X.mg) (c := c) (P := PT) (ps := tab) cfr I.ok.glob (I.mod.glob.keeps I.bk) hcode (TB.code.keeps I.bk) at0 tok hn TB.gP bmP fun c' ctv h' tk grows le lt rec here => ?_
    obtain ⟨_, oc, us, t, e, g1, g2, g3⟩ := rec
    cases e
    have newC : H c' = none := I.hok.fresh le
    have le2 : s.heap.objs.size ≤ h'.objs.size := Nat.le_trans le (Nat.le_of_lt lt)
    have ne1 : h'.objs.size ≠ c' := Nat.ne_of_gt lt
    have ne2 : h'.objs.size ≠ PT := Nat.ne_of_gt (Nat.lt_of_lt_of_le (Heap.lt_size at0) le2)
    have stay : ∀ b o, b ≠ PT → H b = some o → upd (upd H PT (.tbl (tab ++ #[rawInt lpos.line, rawInt lpos.col, .ref c']))) c' (CodeO c' L.qual) b = some o := fun b o n e => by rw [upd_ne (ne_of_none e newC), upd_ne n, e]
    have J := LamX.inv_table (q := L.qual) (t' := tk) (more := #[rawInt lpos.line, rawInt lpos.col, .ref c']) (h' := h'.push (PySem.W.kla_obj "<lambda>" L.qual L.params L.body L.scope (cloFrom X.env.cells L.scope.names []) ((X.mg "__name__").getD .none) c' ctv)) I hP
      (fun b o n e => Heap.get?_push_of_some _ (grows b o n e)) (Heap.get?_push_of_some _ here) le ⟨oc, us, t, Heap.get?_push_of_some _ g1, g2, g3⟩
    refine fin _ c' _ ctv _ _ J ⟨fun b o e => ?_, fun P T => ?_⟩ (Heap.get?_push_size _ rfl) ?_ le2 upd_same
    · by_cases n : b = PT
      · subst n
        rw [hP] at e
        cases e
        exact ⟨_, by rw [upd_ne (ne_of_none hP newC), upd_same], .inr (.inr ⟨rfl, rfl⟩)⟩
      · exact ⟨o, stay b o n e, .inl rfl⟩
    · obtain ⟨p2, a1, a2, a3⟩ := T
      have kn : ∀ (c0 : Addr) (q : Str), H c0 = some (CodeO c0 q) → upd (upd H PT (.tbl (tab ++ #[rawInt lpos.line, rawInt lpos.col, .ref c']))) c' (CodeO c' L.qual) c0 = some (CodeO c0 q) := fun c0 q e => stay c0 _ (fun z => by
        rw [z, hP] at e
        cases e) e
      by_cases n : P = PT
      · subst n
        rw [hP] at a1
        cases a1
        have el : (tab ++ #[rawInt lpos.line, rawInt lpos.col, .ref c']).toList = tab.toList ++ [rawInt lpos.line, rawInt lpos.col, .ref c'] := by simp
        refine ⟨_, by rw [upd_ne (ne_of_none hP newC), upd_same], by rw [el]; exact PySem.TriplesOk_snoc _ _ _ _ a2, fun p cv hc => ?_⟩
        rw [el] at hc
        rcases among_app2 _ a2 hc with z | ⟨z, z1, z2⟩
        · obtain ⟨c0, e1, e2⟩ := a3 p cv z
          exact ⟨c0, e1, kn c0 _ e2⟩
        · exact ⟨c', z, by rw [← z1, ← z2, hnm]; exact upd_same⟩
      · refine ⟨p2, stay P _ n a1, a2, fun p cv hc => ?_⟩
        obtain ⟨c0, e1, e2⟩ := a3 p cv hc
        exact ⟨c0, e1, kn c0 _ e2⟩
    · rw [upd_ne ne1, upd_ne ne2]
      exact I.hok.fresh le2
  · obtain ⟨cv, hcv⟩ := Option.ne_none_iff_exists'.mp hn
    obtain ⟨c', e, hco⟩ := known lpos cv hcv
    subst e
    rw [hnm] at hco
    refine PySem.W.kla_makeFunctionHit (mg := X.mg) (c := c) (P := PT) (ps := tab) cfr I.ok.glob (I.mod.glob.keeps I.bk) hcode (TB.code.keeps I.bk) at0 tok hcv bmP fun ctv h' tk grows le => ?_
    exact fin _ c' _ ctv H _ (I.kept fun b o e => Heap.get?_push_of_some _ (grows b o e)) (Gr.refl H) (Heap.get?_push_size _ rfl) (I.hok.fresh le) le hco
theorem pl_cons (he : PE X e te) (hr : PL X L es t) (hs : starEach (e :: es) X.env = (false, eval e X.env) :: starEach es X.env := by rfl) : PL X L (e :: es) (tlCons te t) := by
  refine ⟨fun pos pins s σ H Q I h => ?_⟩
  rw [hs]
  show wpAny _ _ (spliced ((false, eval e X.env) :: backTo pos (starEach es X.env))) _ _ s
  refine Calls.spliced_cons (thn (he.run pins s σ H _ I h) fun u s1 ⟨x, H1, I1, r1, q1⟩ => ?_)
  exact thn (hr.run pos pins s1 σ H1 _ I1 q1) fun us s2 ⟨lf, lc, xs, H2, I2, r2, o, n, nf, q2⟩ => ⟨lf, lc, x :: xs, H2, I2, .cons r1 r2, o, n, nf, q2⟩
/-- g(.., lambda ..) -/
def tCallL (js : List Nat) (sp : Addr → Addr → List (Option V) → Sp) (E : L2.St → XK) (t : TL) : TE := fun σ H Q => t σ H fun lf lc vs H1 => sp lf lc (js.map (slotAt σ)) vs H1 Q (E σ)
theorem pe_callL {fr ps : List Str} {js : List Nat} {k : Nat} {f : Addr} {fd : FuncData} {x : Str} {sp : Addr → Addr → List (Option V) → Sp} {E : L2.St → XK} {p pos : Pos}
    (F : FnOkC X.prog X.w X.K X.mg X.base CX k f fd ps L fr sp) (hr : Room k X.A) (hg : Gl X x) (hm : X.mg x = some (.ref f)) (hk : PySem.W.keepIn X.K (.ref f) = true) (hb : Binds X.K fd ps []) (hx : ∀ σ, PassesAt CX X σ (E σ)) (cp : X.Ok → Caps X (cloFrom X.env.cells L.scope.names []) fr js)
    (ha : PL X L (e :: es) t) (hdb : (x == ("__debug__" : Str)) = false := by decide) (he : starEach (e :: es) X.env = (false, eval e X.env) :: starEach es X.env := by rfl) (hpl : (backTo pos (starEach es X.env)).any (·.1) = false := by rfl) :
    PE X (.Call (.Name x p) (e :: es) [] pos) (tCallL js sp E t) := by
  refine ⟨fun pins s σ H Q I h => ?_⟩
  refine wpAny_Call_Name_kw (ld_glob I hg hm ?_ hdb)
  refine PySem.W.callWith_K (h₀ := X.base) I.ok.mod.kin hk (thn (ha.run pos pins s σ H _ I h) fun us s1 ⟨lf, lc, vs, H1, I1, r, o, n, nf, q⟩ => ⟨I1.kIn, ?_⟩) he hpl
  have hl : us.length = ps.length := by rw [← r.length]; exact F.len _ _ _ _ _ _ _ q
  have b := hb s1 us I1.kIn (by rw [List.append_nil]; exact hl)
  rw [List.append_nil] at b
  have C := cells_of I1 (cp I1.ok)
  refine wpAny_call (codeAny_mono (F.run X.A X.stack s1 H1 ⟨us, []⟩ us vs Q (E σ) lf lc _ _ hr I1.env0 ⟨o, n, nf, C⟩ b r q) fun r s' hq => ?_)
  cases r with
  | error e => exact hx σ pins H1 s1 e s' I1 hq
  | ok fl =>
    cases fl with
    | ret u => exact I1.after hq
    | next => exact False.elim hq
    | brk => exact False.elim hq
    | cont => exact False.elim hq
end
/-! ### readings -/
section
variable {σ : L2.St} {H : Hp} {Q : VK}
theorem rd_act {i : Nat} {f c : Addr} {q : Str} {sp : Sp} {E : L2.St → XK} {t : TA} (h1 : σ[i]? = some (some (.ref f))) (h : t σ H fun vs H1 => H1 c = some (CodeO c q) ∧ sp vs H1 Q (E σ)) : tAct i f c q sp E t σ H Q := ⟨h1, h⟩
theorem rd_callL {js : List Nat} {sp : Addr → Addr → List (Option V) → Sp} {E : L2.St → XK} {t : TL} (h : t σ H fun lf lc vs H1 => sp lf lc (js.map (slotAt σ)) vs H1 Q (E σ)) : tCallL js sp E t σ H Q := h
theorem rd_lcons {ta : TE} {t : TL} {Q : Addr → Addr → List V → Hp → Prop} (h : ta σ H fun x H1 => t σ H1 fun lf lc xs H2 => Q lf lc (x :: xs) H2) : tlCons ta t σ H Q := h
theorem rd_lnil {P : Addr} {q : Str} {Q : Addr → Addr → List V → Hp → Prop} (h1 : TabN H P Nm.nm) (h : ∀ lf lc H1, Gr [] H H1 → H1 lc = some (CodeO lc q) → Q lf lc [.ref lf] H1) : tlNil P q σ H Q := ⟨h1, h⟩
end
/-- the code object of a lambda -/
def rF (c : Addr) (q : Str) : Rp Unit := fun H _ _ => H c = some (CodeO c q)
instance {c : Addr} {q : Str} : Imm (rF c q) := ⟨fun g h => g _ _ h kd_code⟩
theorem rF_of {c : Addr} {q : Str} {H : Hp} {v : V} (h : H c = some (CodeO c q)) : rF c q H () v := h
/-- the tables of the program -/
def TabsA (TT : List Addr) (H : Hp) : Prop := ∀ P ∈ TT, TabN H P Nm.nm
theorem TabsA.gr {TT A : List Addr} {H H' : Hp} (t : TabsA TT H) (g : Gr A H H') : TabsA TT H' := fun P h => g.tb P (t P h)
theorem passN {X : Cx} : ∀ σ, PassesAt CX0 X σ ((fun _ => E0) σ) := fun _ _ _ _ _ _ _ h => (show False from h).elim
/-! ### where a lambda stands in a text -/
def aReturn (s : Stmt) : Expr := match s with
  | .Return (some e) _ => e
  | _ => .Constant .none 0 ⟨0, 0, 0, 0⟩
def aArg (i : Nat) (e : Expr) : Expr := match e with
  | .Call _ as _ _ => as.getD i e
  | _ => e
def aBody (i : Nat) (s : Stmt) : Stmt := match s with
  | .For _ _ b _ _ => b.getD i s
  | .FunctionDef _ _ b _ _ _ _ _ _ _ => b.getD i s
  | _ => s
def lwOf (q : Str) (e : Expr) : LW := match e with
  | .Lambda p b sc _ => ⟨q, p, b, sc⟩
  | _ => ⟨q, { posonlyargs := [], args := [], vararg := none, kwonlyargs := [], kw_defaults := [], kwarg := none, defaults := [] }, e, { kind := .function, names := [], isGenerator := false, isCoroutine := false }⟩
theorem funT_mk {K : PySem.W.Frag} {x qual : Str} {st : Stmt} {f c PT : Addr} {oc : Value} {od an : Option Addr} {osl : Array (Option Value)} {kV doc pm ct : Value} (l : K.lookup f = some ⟨oc, od, .func (PySem.W.fnOf x qual (defArgs st) (defBody st) (defScope st) .none kV doc pm an (.ref c) ct), osl⟩)
    (h : PySem.W.codeIn K (.ref c) qual = true) : FunT K x qual st f (PySem.W.fnOf x qual (defArgs st) (defBody st) (defScope st) .none kV doc pm an (.ref c) ct) c PT := ⟨⟨oc, od, kV, doc, pm, an, ct, osl, rfl, l, h⟩⟩
def posE (e : Expr) : Nat × Nat := match e with
  | .Lambda _ _ _ p => (p.line, p.col)
  | _ => (0, 0)
end Mir
set_option Elab.async false
set_option linter.all false
set_option maxRecDepth 100000
namespace Mir
open PySem PySem.Spec PyProof.Rows L2
variable [Nm]
/-! ### enumerate over a tuple -/
section
open PySem.AutoSeq1 (wpAny_loadPart')
theorem enumTup_makes (t : Addr) (items : Array Value) (n : Nat) (dd : Option Addr) (sl : Array (Option Value)) :
    Meets (Builtin.«enumerate.__new__» ⟨[.type "enumerate", .ref t], []⟩) (fun _ R s => s.heap.get? t = some { cls := .type "tuple", dict := dd, data := .seq items n, slots := sl } ∧
      R (.ok (.ret (.ref (s.heap.push { cls := .type "tuple_iterator", data := .fields #[.ref t, .int 0 0] }).objs.size)))
        { s with heap := (s.heap.push { cls := .type "tuple_iterator", data := .fields #[.ref t, .int 0 0] }).push { cls := .type "enumerate", data := .fields #[.none, .bool false, .ref s.heap.objs.size, rawInt 0, .none, .none] } }) :=
  .of_wp fun prog w A R s h => by
    obtain ⟨hp, g, d, tk, os⟩ := s; obtain ⟨ht, h⟩ := h
    have isSub := sub_enumerate
    have isT : Heap.IsTuple (Shared.heap ⟨hp, g, d, tk, os⟩) t items := ⟨_, ht, rfl, n, rfl⟩
    wp_walk using wpAny_loadPart' ht
    refine wpAny_stack_any fun st => wpAny_pure ?_
    split
    · rename_i c _ _ _ _ _
      cases (c == Value.type "enumerate") <;> (wp_walk using wpAny_loadPart' ht, wpAny_pyIter_tuple isT; exact ⟨_, rfl, h⟩)
    · wp_walk using wpAny_loadPart' ht, wpAny_pyIter_tuple isT
      exact ⟨_, rfl, h⟩
end
theorem call_enumT {prog : Program} {w : World} {A : Around} {E : Value → Shared → Prop} {s : Shared} {t : Addr} {items : Array Value} {Q : Value → Shared → Prop} (hT : s.heap.IsTuple t items)
    (h : ∀ h', IsEnum h' (s.heap.objs.size + 1) s.heap.objs.size 0 .none → h'.IsTupleIter s.heap.objs.size t 0 → h'.objs.size = s.heap.objs.size + 2 →
      (∀ b o, s.heap.get? b = some o → h'.get? b = some o) → Q (.ref (s.heap.objs.size + 1)) { s with heap := h' }) :
    wpAny (model prog w) A (call (.type "enumerate") [.ref t]) Q E s := by
  obtain ⟨⟨c, dd, dt, sl⟩, ht, e1, n, e2⟩ := hT
  obtain rfl : c = .type "tuple" := e1
  obtain rfl : dt = .seq items n := e2
  refine callType_new F.called_enumerate (by decide) (F.typeCall_enumerate_1 _) (F.newCall_enumerate_1 _) (fun obj => F.args_object_init_2 obj _) F.entry_enumerate_new (enumTup_makes t items n dd sl) ⟨ht, ?_⟩
  have z : (s.heap.push { cls := .type "tuple_iterator", data := .fields #[.ref t, .int 0 0] }).objs.size = s.heap.objs.size + 1 := Heap.size_push ..
  show _ ∧ _
  have he := Heap.get?_push_size (s.heap.push { cls := .type "tuple_iterator", data := .fields #[.ref t, .int 0 0] }) (o := { cls := .type "enumerate", data := .fields #[.none, .bool false, .ref s.heap.objs.size, rawInt 0, .none, .none] }) rfl
  rw [z] at he ⊢
  exact ⟨⟨_, he, rfl⟩, h _ he ⟨_, Heap.get?_push_of_some _ (Heap.get?_push_size _ rfl), rfl, rfl⟩ (by rw [Heap.size_push, z]) fun b o x => Heap.get?_push_of_some _ (Heap.get?_push_of_some _ x)⟩
/-- the tuple at a, its items in new pairs with their places -/
def ItT (K : PySem.W.Frag) (a : Addr) : It :=
  ⟨fun i H => ∃ (xs : List V) (x : V), SqT K H a xs ∧ xs[i]? = some x, fun i H v H' => ∃ T x, v = .ref T ∧ H T = none ∧ H' = upd H T (.tup [.int (i : Nat), x]) ∧ ∀ xs, SqT K H a xs → xs[i]? = some x, fun i H => ∃ xs : List V, SqT K H a xs ∧ xs.length ≤ i⟩
theorem turn_enumT {P : Program} {w : World} {K : PySem.W.Frag} {elts : List Expr} {kk : Nat} {tpos : Pos} (a e it : Addr) :
    Turn P w K (.Tuple elts kk tpos) (ItT K a) [e, it] e (fun i h => (∃ old, IsEnum h e it ((i : Nat) : Int) old) ∧ h.IsTupleIter it a i ∧ e ≠ it ∧ a ≠ e ∧ a ≠ it) where
  mem := by simp
  obj := fun i h st b hb => by
    obtain ⟨⟨old, he⟩, ⟨o, ho, hc, hd⟩, _⟩ := st
    have e' : b = e ∨ b = it := by simpa using hb
    rcases e' with z | z <;> rw [z]
    · exact ⟨_, he, fun v q => nomatch q⟩
    · exact ⟨o, ho, fun v q => by rw [hd] at q; cases q⟩
  keep := fun i h h' st k => let ⟨⟨old, he⟩, ⟨o, ho, r⟩, hne⟩ := st; ⟨⟨old, k e (by simp) _ he⟩, ⟨o, k it (by simp) _ ho, r⟩, hne⟩
  item := by
    intro X hP hw hK hc i pins s σ H E I hf st hg
    subst hP hw hK
    obtain ⟨⟨old, he⟩, hit, hne, n1, n2⟩ := st
    obtain ⟨xs, x, hq, hx⟩ := hg
    obtain ⟨its, rv, p, hz⟩ := I.tuple hq
    obtain ⟨u, hu, ru⟩ := rv.get hx
    have hel : e < s.heap.objs.size := Heap.lt_size he
    have hil : it < s.heap.objs.size := by obtain ⟨_, q, _⟩ := hit; exact Heap.lt_size q
    have lt : i < its.toArray.size := by
      have q := (List.getElem?_eq_some_iff.mp hu).1
      rw [List.size_toArray]
      exact q
    refine wpAny_pyNext_enum_itemD (Draws.tuple (A := X.A.in1) (show X.A.in1.handled = none from I.ok.hd hc) it a n2 its.toArray) he ⟨hit, p⟩ lt hne (by simp [hne, Ne.symm n1]) fun y h' tk hy ho hit' hT hsz hk => ?_
    have ey : y = u := by
      have e2 : its.toArray[i]? = some u := by simpa using hu
      rw [e2] at hy
      exact (Option.some.inj hy).symm
    subst ey
    refine ⟨_, rfl, wpAny_letOwnedTupleGo_enum (s := { s with heap := h', toks := tk + 1 }) ho fun h'' he' sb => ?_⟩
    have hT2 : h''.get? s.heap.objs.size = some { cls := .type "tuple", data := .seq #[.int i tk, y] } := (sb.2 _ (Nat.ne_of_gt hel)).trans hT
    have new : ObjOk X.prog X.w (upd H s.heap.objs.size (.tup [.int (i : Nat), x])) h'' s.heap.objs.size (.tup [.int (i : Nat), x]) :=
      ⟨by show 2 ≤ sizeLine; decide, [.int i tk, y], .cons ⟨_, rfl⟩ (.cons ru .nil), ⟨_, hT2, rfl, _, rfl⟩⟩
    have I1 : Inv X pins σ (upd H s.heap.objs.size (.tup [.int (i : Nat), x])) { s with heap := h'', toks := tk + 1 } :=
      I.turnedNew (ch := [e, it]) (fun b ob hb q => (sb.2 b (fun z => hb (by simp [z]))).trans (hk b ob (fun z => hb (by simp [z])) (fun z => hb (by simp [z])) q)) hf (Nat.le_refl _) new
    refine ⟨.ref s.heap.objs.size, _, I1, rfl, ⟨_, x, rfl, I.hok.fresh (Nat.le_refl _), rfl, fun ys hy => by rw [I.tuple_inj hy hq]; exact hx⟩, ⟨⟨y, ?_⟩, ?_, hne, n1, n2⟩, fun b hb => ?_⟩
    · have e1 : ((i + 1 : Nat) : Int) = (i : Int) + 1 := by omega
      rw [e1]; exact he'
    · obtain ⟨⟨o, g1, g2⟩, _⟩ := hit'
      exact ⟨o, (sb.2 it (Ne.symm hne)).trans g1, g2⟩
    · have hb' : b < s.heap.objs.size := by
        have e' : b = e ∨ b = it := by simpa using hb
        rcases e' with z | z <;> rw [z]
        · exact hel
        · exact hil
      rw [upd_ne (Nat.ne_of_lt hb')]
      exact (hf b hb).1
  done := by
    intro X hP hw hK hc i pins s σ H E I hf st hg
    subst hP hw hK
    obtain ⟨⟨old, he⟩, hit, hne, n1, n2⟩ := st
    obtain ⟨xs, hq, hx⟩ := hg
    obtain ⟨its, rv, p, hz⟩ := I.tuple hq
    obtain ⟨f0, f1, f2, f3, f4, f5⟩ := hf it (by simp)
    have hl := rv.length
    have hh : (X.A).in1.handled = none := I.ok.hd hc
    have hn : its.toArray[i]? = none := by simp; omega
    have hT : s.TypeIs (.ref e) "enumerate" := ⟨_, he, rfl⟩
    unfold pyNext
    refine wpAny_bind (wpAny_attempt (wpAny_callSpecial?_slot (name := Str.ofString "__next__") hT F.slot_enumerate_next
      (wpAny_call_entry F.slot_enumerate_next hT F.entry_enumerate_next ?_ (F.args_enumerate_next_1 _))))
    show wpAny _ _ (field (.ref e) 2 >>= _) _ _ _
    refine wpAny_bind (wpAny_field he rfl (x := .ref it) rfl ?_)
    refine wpAny_bind (wpAny_nextOf_tuple_end hh hit p hn fun h' x he' hx' => ?_)
    obtain ⟨o, ho, hc'⟩ := hx'
    refine wpAny_bind (wpAny_isInstance (T := "StopIteration") (b := true) ⟨o, ho, hc'⟩ isSubtype_stop ?_)
    exact wpAny_pure ⟨rfl, I.turned (t' := s.toks) (fun b o hb q => he' b o hb q) f0 f1 f3 f4 f5⟩
  self := fun A i s Q E st h => let ⟨⟨_, he⟩, _⟩ := st; wpAny_pyIter_enum he h
def iEnumT (K : PySem.W.Frag) (ta : TA) : TI := fun σ H R => ta σ H fun vs H1 => ∃ a xs, vs = [.ref a] ∧ SqT K H1 a xs ∧ R (ItT K a) H1
theorem pi_enumT {X : Cx} {e1 : Expr} {ta : TA} {p pos tpos : Pos} {elts : List Expr} {kk : Nat} {K : PySem.W.Frag} (hg : Gl X "enumerate") (hm : X.mg "enumerate" = none) (ha : PA X [e1] ta) (hK : X.K = K) (hs : starEach [e1] X.env = [(false, eval e1 X.env)] := by rfl) :
    PI X (.Tuple elts kk tpos) (.Call (.Name "enumerate" p) [e1] [] pos) (iEnumT K ta) := by
  subst hK
  refine ⟨fun pins s σ H R I h => ?_⟩
  refine Call_ (ld_blt I hg hm boot_enumerate (PyProof.Rows.callWith_type1 (thn (ha.run pos pins s σ H _ I h) fun us s1 ⟨vs, H1, I1, r1, q1⟩ => ?_) hs rfl))
  obtain ⟨a, xs, ex, hq, q⟩ := q1
  subst ex
  cases r1 with
  | cons r rr =>
    cases rr
    cases r
    obtain ⟨its, rv, p', hz⟩ := I1.tuple hq
    have la : a < s1.heap.objs.size := by obtain ⟨_, z, _⟩ := id p'; exact Heap.lt_size z
    refine call_enumT p' fun h' he hit hsz hk => wpAny_pyIter_enum he ?_
    have I2 : Inv X pins σ H1 { s1 with heap := h' } := I1.kept (t' := s1.toks) hk
    refine ⟨s1.heap.objs.size + 1, [s1.heap.objs.size + 1, s1.heap.objs.size], _, _, H1, rfl, I2, turn_enumT a (s1.heap.objs.size + 1) s1.heap.objs.size, ⟨⟨.none, he⟩, hit, Nat.succ_ne_self _, Nat.ne_of_lt (Nat.lt_succ_of_lt la), Nat.ne_of_lt la⟩, fun b hb => ?_, q⟩
    have hle : s1.heap.objs.size ≤ b := by
      have e' : b = s1.heap.objs.size + 1 ∨ b = s1.heap.objs.size := by simpa using hb
      rcases e' with z | z <;> rw [z]
      · exact Nat.le_add_right _ _
      · exact Nat.le_refl _
    exact I1.fpOk hle (I1.hok.fresh hle)
theorem walk_enumT {K : PySem.W.Frag} {a : Addr} {xs : List V} : Walk (ItT K a) xs.length (fun H => SqT K H a xs) (YPair (fun i => some (.int (i : Nat))) (fun i => xs[i]?)) := by
  refine ⟨fun i _ hi q => ⟨xs, xs[i], q, by simp [hi]⟩, fun _ q => ⟨xs, q, Nat.le_refl _⟩, fun i H v H' _ q y => ?_⟩
  obtain ⟨T, x, h1, h2, h3, h4⟩ := y
  exact ⟨T, .int (i : Nat), x, h1, h2, h3, rfl, h4 xs q⟩
section
variable {α : Type} {K : PySem.W.Frag} {r : Rp α} {H H0 : Hp} {a : Addr} {xs : List α} {vs : List V}
theorem wk_enumT [Imm r] (hp : Paired (r H0) xs vs) : Wk (ItT K a) (enumF xs) (fun H => SqT K H a vs) (rP K rI r) H0 := ⟨_, by rw [enumF, List.length_zip, rng_length, Nat.min_self, Paired.length hp]; exact walk_enumT, fun A i H v H' g hi h => by
  obtain ⟨T, x, y, rfl, hn, rfl, ex, ey⟩ := h
  cases ex
  obtain ⟨z, hz, hr⟩ := Paired.get1 hp ey
  have hi' : i < (rng 0 xs.length).length := by
    rw [enumF, List.length_zip] at hi
    exact Nat.lt_of_lt_of_le hi (Nat.min_le_left _ _)
  refine ⟨((i : Nat), z), zip_get (by rw [List.getElem?_eq_getElem hi', rng_get]; congr 1; omega) hz, Gr.new hn, T, .int (i : Nat), y, rfl, SqT.of upd_same, rfl, Imm.mono (g.of0' (Gr.new hn)) hr⟩⟩
def enumAT (K : PySem.W.Frag) (R : It → Hp → Prop) (vs : List V) (H1 : Hp) : Prop := ∃ a xs, vs = [.ref a] ∧ SqT K H1 a xs ∧ R (ItT K a) H1
theorem enum_t {R : It → Hp → Prop} {u : V} {b : Addr} {xs : List V} (e : u = .ref b) (h1 : SqT K H b xs) (h : R (ItT K b) H) : enumAT K R [u] H := ⟨b, xs, by rw [e], h1, h⟩
theorem rd_ienumT {l : TA} {σ : L2.St} {R : It → Hp → Prop} (h : l σ H (enumAT K R)) : iEnumT K l σ H R := h
end
/-! ### a tuple times an int -/
theorem tuple_mul_one (l : Addr) (items : Array Value) (n : Nat) (dd : Option Addr) (sl : Array (Option Value)) (x : Int) (u : Tok) (c0 : (decide (x < -(2 ^ 63)) || decide (x ≥ 2 ^ 63)) = false) (c1 : (items.isEmpty || x == 1) = true) :
    Meets (Builtin.«tuple.__mul__» ⟨[.ref l, .int x u], []⟩) (fun _ R s => s.heap.get? l = some { cls := .type "tuple", dict := dd, data := .seq items n, slots := sl } ∧ R (.ok (.ret (.ref l))) s) :=
  .of_wp fun prog w A R s h => by
    obtain ⟨hp, g, d, tk, os⟩ := s
    obtain ⟨hl, h⟩ := h
    have f1 := AutoSeq1.idx_int
    wp_walk using AutoSeq1.wpAny_loadPart' hl
    repeat (first
      | (refine wpAny_ite_false (decide_eq_false (by rw [c0]; exact Bool.false_ne_true)) ?_; wp_walk using AutoSeq1.wpAny_loadPart' hl)
      | (refine wpAny_ite_true (decide_eq_true c1) ?_; wp_walk using AutoSeq1.wpAny_loadPart' hl))
    exact ⟨_, rfl, h⟩
theorem tuple_mul_none (l : Addr) (items : Array Value) (n : Nat) (dd : Option Addr) (sl : Array (Option Value)) (x : Int) (u : Tok) (c0 : (decide (x < -(2 ^ 63)) || decide (x ≥ 2 ^ 63)) = false) (c1 : (items.isEmpty || x == 1) = false) (c2 : (decide (x ≤ 0) || items.isEmpty) = true) :
    Meets (Builtin.«tuple.__mul__» ⟨[.ref l, .int x u], []⟩) (fun _ R s => s.heap.get? l = some { cls := .type "tuple", dict := dd, data := .seq items n, slots := sl } ∧
      R (.ok (.ret (Value.ref s.heap.objs.size))) { s with heap := s.heap.push { cls := Value.type "tuple", data := Data.seq #[] }, toks := s.toks }) :=
  .of_wp fun prog w A R s h => by
    obtain ⟨hp, g, d, tk, os⟩ := s
    obtain ⟨hl, h⟩ := h
    have f1 := AutoSeq1.idx_int
    wp_walk using AutoSeq1.wpAny_loadPart' hl
    repeat (first
      | (refine wpAny_ite_false (decide_eq_false (by rw [c0]; exact Bool.false_ne_true)) ?_; wp_walk using AutoSeq1.wpAny_loadPart' hl)
      | (refine wpAny_ite_false (decide_eq_false (by rw [c1]; exact Bool.false_ne_true)) ?_; wp_walk using AutoSeq1.wpAny_loadPart' hl)
      | (refine wpAny_ite_true (decide_eq_true c2) ?_; wp_walk using AutoSeq1.wpAny_loadPart' hl))
    exact ⟨_, rfl, h⟩
def repL {α : Type} (xs : List α) (k : Int) : List α := (List.replicate k.toNat xs).flatten
def rRepA (K : PySem.W.Frag) : R2 := fun x y H Q => ∃ l k xs, x = .ref l ∧ y = .int k ∧ SqT K H l xs ∧ xs ≠ [] ∧ -1000 ≤ k ∧ k ≤ 1000 ∧ xs.length ≤ 1000 ∧ (k = 1 → Q (.ref l) H) ∧ (k ≠ 1 → ∀ p, H p = none → Q (.ref p) (upd H p (.tup (repL xs k))))
theorem op_repA {X : Cx} {K : PySem.W.Frag} (hK : X.K = K) : OpR X (binaryOp .Mult) (rRepA K) := by
  subst hK
  intro pins s σ H x y v u Q I rx ry h
  obtain ⟨l, k, xs, rfl, rfl, hT, hne, h0, h1, hz, q1, q2⟩ := h
  by_cases k2 : 2 ≤ k
  · exact op_repT pins s σ H _ _ v u Q I rx ry ⟨l, k, xs, rfl, rfl, hT, hne, k2, h1, hz, q2 (by omega)⟩
  cases rx
  obtain ⟨t, rfl⟩ := ry
  obtain ⟨its, r, ⟨⟨cls, dd, data, sl⟩, ho, hc, n, hd⟩, hs⟩ := I.tuple hT
  obtain rfl : cls = .type "tuple" := hc
  obtain rfl : data = .seq its.toArray n := hd
  have ne : its.toArray.isEmpty = false := by
    cases its with
    | nil => cases r; exact absurd rfl hne
    | cons a b => rfl
  have c0 : (decide (k < -(2 ^ 63)) || decide (k ≥ 2 ^ 63)) = false := by
    rw [decide_eq_false (by omega), decide_eq_false (by omega)] <;> rfl
  refine wpAny_binaryOp_repeat_ref (T := "tuple") (U := "int") (by decide) ⟨_, ho, rfl⟩ (fun s' => typeIs_int s' k t) noFill_tuple_mul F.fills_int_mul F.slot_int_rmul repeat_tuple F.slot_int_index.lookup
    (call_meets F.slot_int_rmul (typeIs_int s k t) F.entry_int_rmul (F.args_int_rmul_2 _ _) (int_rmul_tuple k t l its.toArray n dd sl) ⟨ho, rfl, ⟨_, ho, rfl⟩, ?_⟩)
  by_cases e1 : k = 1
  · refine call_meets F.slot_tuple_mul ⟨_, ho, rfl⟩ F.entry_tuple_mul (F.args_tuple_mul_2 _ _) (tuple_mul_one l its.toArray n dd sl k t c0 (by rw [e1, ne]; rfl)) ⟨ho, ?_⟩
    exact ⟨.ref l, H, I, rfl, q1 e1⟩
  · refine call_meets F.slot_tuple_mul ⟨_, ho, rfl⟩ F.entry_tuple_mul (F.args_tuple_mul_2 _ _) (tuple_mul_none l its.toArray n dd sl k t c0 (by rw [ne, Bool.false_or]; exact beq_eq_false_iff_ne.mpr e1) (by rw [decide_eq_true (show k ≤ 0 by omega)]; rfl)) ⟨ho, ?_⟩
    have z : repL xs k = [] := by
      unfold repL
      rw [show k.toNat = 0 by omega]
      rfl
    have q := q2 e1
    rw [z] at q
    refine ⟨.ref s.heap.objs.size, _, I.laid (t' := s.toks) (o := .tup []) (fun b ob q => Heap.get?_push_of_some _ q) (Nat.le_refl _) ?_, rfl, q _ (I.hok.fresh (Nat.le_refl _))⟩
    exact ⟨by show 0 ≤ sizeLine; omega, [], .nil, IsTup.new _ _⟩
/-! ### readings -/
section
variable {α : Type} {K : PySem.W.Frag} {X : Cx} {r : Rp α} {H : Hp} {a b : Addr} {xs ys : List α} {v w : V} {Q : VK} {σ : L2.St} {E : Er → Prop}
theorem catAK (e : X.K = K) : OpR X (binaryOp .Add) (rCatA K) := e ▸ op_catA
theorem sl_tupAK (e : X.K = K) : SlR X (rSlA K) := e ▸ sl_tupA
theorem Paired.nil_l {q : α → V → Prop} {vs : List V} (h : Paired q xs vs) : vs = [] ↔ xs = [] := by
  cases h with
  | nil => simp
  | cons _ _ => simp
theorem cat_TA [Imm r] (hx : rT K r H xs v) (hy : rT K r H ys w) (l : lenOk (xs ++ ys)) (q : ∀ v H', Gr [] H H' → rT K r H' (xs ++ ys) v → Q v H') : rCatA K v w H Q := by
  obtain ⟨a, rfl, vs, h1, h2⟩ := hx
  obtain ⟨b, rfl, ws, h3, h4⟩ := hy
  refine ⟨a, b, vs, ws, rfl, rfl, h1, h3, ?_, fun e => ?_, fun _ e => ?_, fun _ _ p n => ?_⟩
  · have l' : (xs ++ ys).length ≤ sizeLine := l
    rw [List.length_append, Paired.length h2, Paired.length h4] at l'
    exact l'
  · have z : xs = [] := (Paired.nil_l h2).mp e
    subst z
    exact q _ _ (Gr.refl H) ⟨b, rfl, ws, h3, h4⟩
  · have z : ys = [] := (Paired.nil_l h4).mp e
    subst z
    exact q _ _ (Gr.refl H) ⟨a, rfl, vs, h1, by rw [List.append_nil]; exact h2⟩
  · exact q _ _ (Gr.new n) ⟨p, rfl, _, SqT.of upd_same, Paired.app (Paired.imm (Gr.new (A := []) n) h2) (Paired.imm (Gr.new (A := []) n) h4)⟩
theorem Paired.takeD {q : α → V → Prop} {vs : List V} (h : Paired q xs vs) : ∀ i j : Nat, Paired q ((xs.drop i).take j) ((vs.drop i).take j) := by
  induction h with
  | nil => intro i j; simp; exact .nil
  | cons h t ih =>
    rename_i x u xs us
    intro i j
    cases i with
    | succ i => exact ih i j
    | zero =>
      cases j with
      | zero => exact .nil
      | succ j => exact .cons h (by simpa using ih 0 j)
theorem cut_TA [Imm r] {lo hi : Option Int} (h : rT K r H xs v) (q : ∀ v H', Gr [] H H' → rT K r H' (cutT xs lo hi) v → Q v H') : rSlA K v lo hi H Q := by
  obtain ⟨a, rfl, vs, h1, h2⟩ := h
  refine ⟨a, vs, rfl, h1, fun e => ?_, fun _ p n => ?_⟩
  · have z : cutT xs lo hi = xs := by
      unfold cutT
      rw [Paired.length h2, e.1, e.2, List.drop_zero, Nat.sub_zero, ← Paired.length h2, List.take_length]
    exact q _ _ (Gr.refl H) ⟨a, rfl, vs, h1, by rw [z]; exact h2⟩
  · refine q _ _ (Gr.new n) ⟨p, rfl, _, SqT.of upd_same, Paired.imm (Gr.new (A := []) n) ?_⟩
    unfold cutT cutV
    rw [Paired.length h2]
    exact Paired.takeD h2 _ _
theorem tup_of_T (h : rT K r H xs v) (q : Q v H) : ap3 (fun vs H Q => ∃ p ys, vs = [V.ref p] ∧ ((SqL K H p ys ∧ ∀ l, H l = none → Q (.ref l) (upd H l (.tup ys))) ∨ (SqT K H p ys ∧ Q (.ref p) H))) [v] H Q := by
  obtain ⟨a, rfl, vs, h1, _⟩ := h
  exact ⟨a, vs, rfl, .inr ⟨h1, q⟩⟩
/-- how often a tuple, a list may be repeated -/
def repOk {α : Type} (xs : List α) (k : Int) : Prop := -1000 ≤ k ∧ k ≤ 1000 ∧ xs.length ≤ 1000 ∧ xs.length * k.toNat ≤ 1000000
instance (xs : List α) (k : Int) : Decidable (repOk xs k) := inferInstanceAs (Decidable (_ ∧ _))
theorem Paired.rep {q : α → V → Prop} {vs : List V} (h : Paired q xs vs) : ∀ n : Nat, Paired q (List.replicate n xs).flatten (List.replicate n vs).flatten
  | 0 => .nil
  | n + 1 => by
    rw [List.replicate_succ, List.replicate_succ, List.flatten_cons, List.flatten_cons]
    exact Paired.app h (Paired.rep h n)
theorem rep_T [Imm r] {k : Int} (h : rT K r H xs v) (n1 : xs.isEmpty = false) (c : repOk xs k) (q : ∀ v H', Gr [] H H' → rT K r H' (repL xs k) v → Q v H') : rRepA K v (.int k) H Q := by
  obtain ⟨a, rfl, vs, h1, h2⟩ := h
  refine ⟨a, k, vs, rfl, rfl, h1, fun e => ?_, c.1, c.2.1, by rw [← Paired.length h2]; exact c.2.2.1, fun e => ?_, fun _ p n => ?_⟩
  · rw [(Paired.nil_l h2).mp e] at n1
    cases n1
  · subst e
    have z : repL xs 1 = xs := by
      unfold repL
      simp
    exact q _ _ (Gr.refl H) ⟨a, rfl, vs, h1, by rw [z]; exact h2⟩
  · exact q _ _ (Gr.new n) ⟨p, rfl, _, SqT.of upd_same, Paired.imm (Gr.new (A := []) n) (Paired.rep h2 _)⟩
theorem rep_L [Imm r] {k : Int} (h : Ls r H a xs) (c : repOk xs k) (q : ∀ p H', H p = none → Gr [] H H' → Ls r H' p (repL xs k) → Q (.ref p) H') : rRep (.ref a) (.int k) H Q := by
  obtain ⟨vs, h1, h2⟩ := h
  refine ⟨a, k, vs, rfl, rfl, h1, by have := c.1; omega, by have := c.2.1; omega, ?_, fun p n => q _ _ n (Gr.new n) ⟨_, upd_same, Paired.imm (Gr.new (A := []) n) (Paired.rep h2 _)⟩⟩
  rw [← Paired.length h2]
  exact Nat.le_trans c.2.2.2 (by decide)
def pmax (i j : Int) : Int := if j > i then j else i
theorem rd_max {i j : Int} (q : Q (.int (pmax i j)) H) : ap3 (fun xs H Q => ∃ i j, xs = [.int i, .int j] ∧ Q (.int (if j > i then j else i)) H) [.int i, .int j] H Q := ⟨i, j, rfl, q⟩
/-! ### the truth of a list, of a tuple -/
def tTru (K : PySem.W.Frag) (ta : TE) : TT := fun σ H Q => ta σ H fun x H' => ∃ k, TruV K x H' k ∧ Q k H'
theorem pt_tru {e1 : Expr} {ta : TE} (ha : PE X e1 ta) (e : X.K = K) (he : ∀ whole, isTrue e1 X.env whole = (do let v ← whole; standAt e1.pos; holding [v] (truthy v)) := by intro _; rfl) : PT X e1 (tTru K ta) := by
  subst e
  exact pt_truth ha he
def truA (K : PySem.W.Frag) (Q : Bool → Hp → Prop) (x : V) (H' : Hp) : Prop := ∃ k, TruV K x H' k ∧ Q k H'
theorem rd_Tru {ta : TE} {Q : Bool → Hp → Prop} (h : ta σ H (truA K Q)) : tTru K ta σ H Q := h
theorem tru_T {Q : Bool → Hp → Prop} (h : rT K r H xs v) (q : Q (!xs.isEmpty) H) : truA K Q v H := by
  obtain ⟨a, rfl, vs, h1, h2⟩ := h
  refine ⟨_, .inr (.inl ⟨vs, h1, rfl⟩), ?_⟩
  have e : vs.isEmpty = xs.isEmpty := by cases h2 <;> rfl
  rw [e]
  exact q
theorem tru_L {Q : Bool → Hp → Prop} (h : Lq K r H a xs) (q : Q (!xs.isEmpty) H) : truA K Q (.ref a) H := by
  obtain ⟨vs, h1, h2⟩ := h
  refine ⟨_, .inl ⟨vs, h1, rfl⟩, ?_⟩
  have e : vs.isEmpty = xs.isEmpty := by cases h2 <;> rfl
  rw [e]
  exact q
/-! ### reversed(range(n)) -/
def revA (R : It → Hp → Prop) (x : V) (H1 : Hp) : Prop := ∃ n, x = .int n ∧ (-(2 ^ 62) ≤ (0 : Int) ∧ (0 : Int) < 2 ^ 62 ∧ -(2 ^ 62) ≤ n ∧ n < 2 ^ 62 ∧ R (Itc ((0 : Int) + (((n - 0).toNat : Nat) : Int) - 1) (-1) (n - 0).toNat) H1)
theorem rd_rev {n : Int} {R : It → Hp → Prop} (c : rgOk n) (h : R (Itc ((n.toNat : Int) - 1) (-1) n.toNat) H) : revA R (.int n) H := by
  have c1 := c.1
  have c2 := c.2
  refine ⟨n, rfl, by decide, by decide, by omega, by omega, ?_⟩
  rw [show (0 : Int) + (((n - 0).toNat : Nat) : Int) - 1 = (n.toNat : Int) - 1 by omega, show n - 0 = n by omega]
  exact h
theorem rd_irev {l : TE} {R : It → Hp → Prop} (h : l σ H (revA R)) : iRevR (tRg1 l) σ H R := h
/-! ### frozen lists -/
/-! ### a list of three taken apart -/
end
/-- an answer that is there -/
def unO {α : Type} : Option α → R α
  | some x => .ok x
  | none => .out
theorem unO_I {H : Hp} {o : Option Int} {v : V} {Z : Int → Prop} {E : Er → Prop} (h : rO rI H o v) (hm : wp (unO o) Z E) : ∃ x, v = .int x ∧ Z x := by
  cases o with
  | none => exact hm.elim
  | some x => exact ⟨x, h.2, hm⟩
end Mir
set_option Elab.async false
set_option linter.all false
set_option maxRecDepth 100000
namespace Mir
open PySem PySem.Spec PyProof.Rows L2
variable [Nm]
/-! ### objects of own classes -/
section
variable {H H' H0 : Hp} {a C dx p : Addr} {fs : List (Str × V)} {f : Str} {y : V} {A : List Addr}
theorem kd_ins : kd (.ins C dx fs) ≠ 9 := by
  show (match fs.getLast? with
    | some (f, _) => if Nm.last f then 0 else 5
    | none => 5) ≠ 9
  cases fs.getLast? with
  | none => show 5 ≠ 9; decide
  | some q =>
    obtain ⟨f, v⟩ := q
    show (if Nm.last f then 0 else 5) ≠ 9
    split <;> decide
/-- an object at hand: no list stands where it stands -/
theorem ins_ne {α : Type} {r : Rp α} {b : Addr} {xs : List α} (h : H a = some (.ins C dx fs)) (l : Ls r H b xs) : a ≠ b := fun e => by
  obtain ⟨vs, h1, _⟩ := l
  rw [← e, h] at h1
  cases h1
theorem ins_g0 (g : Gr [] H H') (h : H a = some (.ins C dx fs)) : H' a = some (.ins C dx fs) := g.to h (fun m => absurd m (by simp)) kd_ins
theorem ins_gA (g : Gr A H H') (n : a ∉ A) (h : H a = some (.ins C dx fs)) : H' a = some (.ins C dx fs) := g.to h (fun m => absurd m n) kd_ins
theorem ins_fz {b : Addr} (g : Fz b H H') (n : a ≠ b) (h : H a = some (.ins C dx fs)) : H' a = some (.ins C dx fs) := g.ne _ _ n h
/-- a new object's heap -/
theorem gr_make (n1 : H a = none) (n2 : H dx = none) (n3 : dx ≠ a) : Gr [] H (upd (upd H dx (.own a)) a (.ins C dx [])) := (Gr.new n2).trans (Gr.new (by rw [upd_ne (Ne.symm n3)]; exact n1))
/-- o.f = y: the form that a printed text uses -/
def sfA (K : PySem.W.Frag) (f : Str) (y : V) (N : Hp → Prop) (x : V) (H2 : Hp) : Prop := ∃ a C dx fs, x = .ref a ∧ H2 a = some (.ins C dx fs) ∧ Cls K C ∧ NoAttr K C f ∧ fs.length < 1000 ∧ N (upd H2 a (.ins C dx (putF f y fs)))
theorem rd_sfld {K : PySem.W.Frag} {ta tv : TE} {D : Ends} {σ : L2.St} (h : tv σ H fun y H1 => ta σ H1 (sfA K f y (D.nx σ))) : sFld K ta tv f D σ H := h
theorem set_fld {K : PySem.W.Frag} {N : Hp → Prop} (h : H a = some (.ins C dx fs)) (k : kd (.ins C dx fs) ≠ 0) (c : Cls K C) (n : NoAttr K C f) (l : fs.length < 1000) (q : ∀ H', Fz a H H' → H' a = some (.ins C dx (putF f y fs)) → N H') : sfA K f y N (.ref a) H :=
  ⟨a, C, dx, fs, rfl, h, c, n, l, q _ ⟨fun b w e z => by
    by_cases q : b = a
    · subst q
      rw [h] at e
      cases e
      exact absurd z k
    · rw [upd_ne q]
      exact e, fun b o n e => by rw [upd_ne n]; exact e, by rw [upd_same]; intro z; cases z⟩ upd_same⟩
/-- o.f -/
def fldA (K : PySem.W.Frag) (f : Str) (Q : VK) (x : V) (H1 : Hp) : Prop := ∃ a C dx fs v, x = .ref a ∧ H1 a = some (.ins C dx fs) ∧ Cls K C ∧ NoAttr K C f ∧ fs.lookup f = some v ∧ Q v H1
theorem rd_fld {K : PySem.W.Frag} {ta : TE} {σ : L2.St} {Q : VK} (h : ta σ H (fldA K f Q)) : tFld K ta f σ H Q := h
theorem get_fld {K : PySem.W.Frag} {Q : VK} {v : V} (h : H a = some (.ins C dx fs)) (c : Cls K C) (n : NoAttr K C f) (l : fs.lookup f = some v) (q : Q v H) : fldA K f Q (.ref a) H := ⟨a, C, dx, fs, v, rfl, h, c, n, l, q⟩
/-- o.m(..) -/
def methA (C : Addr) (m : Str) (N : V → Hp → Prop) (x : V) (H1 : Hp) : Prop := ∃ a dx fs, x = .ref a ∧ H1 a = some (.ins C dx fs) ∧ fs.lookup m = none ∧ N x H1
def tMethS (C : Addr) (m : Str) (sp : Sp) (E : L2.St → XK) (ta : TE) (t : TA) : TE := fun σ H Q => ta σ H (methA C m fun x H1 => t σ H1 fun vs H2 => sp (x :: vs) H2 Q (E σ))
theorem rd_meth {m : Str} {sp : Sp} {E : L2.St → XK} {ta : TE} {t : TA} {σ : L2.St} {Q : VK} (h : ta σ H (methA C m fun x H1 => t σ H1 fun vs H2 => sp (x :: vs) H2 Q (E σ))) : tMethS C m sp E ta t σ H Q := h
theorem on_meth {m : Str} {N : V → Hp → Prop} (h : H a = some (.ins C dx fs)) (l : fs.lookup m = none) (q : N (.ref a) H) : methA C m N (.ref a) H := ⟨a, dx, fs, rfl, h, l, q⟩
end
section
variable {X : Cx} {CX : CXT} {k : Nat} {f C : Addr} {fd : FuncData} {ps : List Str} {sp : Sp} {E : L2.St → XK} {x m : Str} {p pos apos : Pos} {e o : Expr} {es : List Expr} {ta : TE} {t : TA}
theorem pe_methS {pl : Sem Bool} (he : PE X o ta) (c : Cls X.K C) (hm : Meth X.K C m f) (F : FnOk X.prog X.w X.K X.mg X.base CX k f fd ps sp) (hr : Room k X.A) (hb : Binds X.K fd ps []) (hx : ∀ σ, PassesAt CX X σ (E σ)) (ha : PA X (e :: es) t)
    (hst : starEach (e :: es) X.env = (false, eval e X.env) :: starEach es X.env := by rfl) (hpl : (backTo pos (starEach es X.env)).any (·.1) = false := by rfl)
    (ht : eval (.Call (.Attribute o m apos) (e :: es) [] pos) X.env = (do
      let ov ← eval o X.env
      standAt apos.atName
      let (f, first) ← holding [ov] (getMethod ov m pl)
      callWith pos f first (backTo pos (starEach (e :: es) X.env)) (backToKw pos (keywordEach [] X.env))) := by rfl) :
    PE X (.Call (.Attribute o m apos) (e :: es) [] pos) (tMethS C m sp E ta t) := by
  refine ⟨fun pins s σ H Q I h => ?_⟩
  refine PySem.W.methodCall_KW (pl := pl) (thn (he.run pins s σ H _ I h) fun u s1 hh => ?_) ht
  obtain ⟨x, H1, I1, rx, a, dx, fs, ex, ea, l, q⟩ := hh
  subst ex
  obtain rfl : u = Value.ref a := rx
  refine getmeth_ok I1 ea c hm l ?_
  refine PySem.W.callWith_K (first := [.ref a]) (h₀ := X.base) I.ok.mod.kin hm.kp (thn (ha.run pos pins s1 σ H1 _ I1 q) fun us s2 hh => ?_) hst hpl
  obtain ⟨vs, H2, I2, r, q2⟩ := hh
  exact ⟨I2.kIn, run_fnS (us := .ref a :: us) (vs := .ref a :: vs) F hr hb (hx σ) I2 (.cons rfl r) q2⟩
theorem pe_methS0 {pl : Sem Bool} (he : PE X o ta) (c : Cls X.K C) (hm : Meth X.K C m f) (F : FnOk X.prog X.w X.K X.mg X.base CX k f fd ps sp) (hr : Room k X.A) (hb : Binds X.K fd ps []) (hx : ∀ σ, PassesAt CX X σ (E σ))
    (ht : eval (.Call (.Attribute o m apos) [] [] pos) X.env = (do
      let ov ← eval o X.env
      standAt apos.atName
      let (f, first) ← holding [ov] (getMethod ov m pl)
      callWith pos f first (backTo pos (starEach [] X.env)) (backToKw pos (keywordEach [] X.env))) := by rfl) :
    PE X (.Call (.Attribute o m apos) [] [] pos) (tMethS C m sp E ta tNil) := by
  refine ⟨fun pins s σ H Q I h => ?_⟩
  refine PySem.W.methodCall_KW (pl := pl) (thn (he.run pins s σ H _ I h) fun u s1 hh => ?_) ht
  obtain ⟨x, H1, I1, rx, a, dx, fs, ex, ea, l, q⟩ := hh
  subst ex
  obtain rfl : u = Value.ref a := rx
  refine getmeth_ok I1 ea c hm l ?_
  exact PySem.W.callWith_K0 (first := [.ref a]) I1.kIn hm.kp (run_fnS (us := [.ref a]) (vs := [.ref a]) F hr hb (hx σ) I1 (.cons rfl .nil) q)
/-- C(..): what is made may let errors out -/
def tMakeS (C : Addr) (sp : Sp) (E : L2.St → XK) (t : TA) : TE := fun σ H Q => t σ H fun vs H1 => ∀ x dx, H1 x = none → H1 dx = none → dx ≠ x → sp (.ref x :: vs) (upd (upd H1 dx (.own x)) x (.ins C dx [])) (fun v H2 => v = .non ∧ Q (.ref x) H2) (E σ)
theorem rd_make {σ : L2.St} {H : Hp} {Q : VK} (h : t σ H fun vs H1 => ∀ x dx, H1 x = none → H1 dx = none → dx ≠ x → sp (.ref x :: vs) (upd (upd H1 dx (.own x)) x (.ins C dx [])) (fun v H2 => v = .non ∧ Q (.ref x) H2) (E σ)) : tMakeS C sp E t σ H Q := h
theorem pe_makeS (M : Mk X.K C f) (F : FnOk X.prog X.w X.K X.mg X.base CX k f fd ps sp) (hr : Room (k + 1) X.A) (hg : Gl X x) (hm : X.mg x = some (.ref C)) (hb : Binds X.K fd ps []) (hx : ∀ σ, PassesAt CX X σ (E σ))
    (ha : PA X (e :: es) t) (hdb : (x == ("__debug__" : Str)) = false := by decide) (he : starEach (e :: es) X.env = (false, eval e X.env) :: starEach es X.env := by rfl) (hpl : (backTo pos (starEach es X.env)).any (·.1) = false := by rfl) :
    PE X (.Call (.Name x p) (e :: es) [] pos) (tMakeS C sp E t) := by
  refine ⟨fun pins s σ H Q I h => ?_⟩
  refine wpAny_Call_Name_kw (ld_glob I hg hm ?_ hdb)
  refine PySem.W.callWith_K (h₀ := X.base) I.ok.mod.kin M.kp (thn (ha.run pos pins s σ H _ I h) fun us s1 hh => ?_) he hpl
  obtain ⟨vs, H1, I1, r, q⟩ := hh
  refine ⟨I1.kIn, ?_⟩
  have hq := q (s1.heap.objs.size + 1) s1.heap.objs.size (I1.hok.fresh (Nat.le_succ _)) (I1.hok.fresh (Nat.le_refl _)) (Nat.ne_of_lt (Nat.lt_succ_self _))
  have I2 := Inv.made (C := C) I1
  have r2 : Vals (V.ref (s1.heap.objs.size + 1) :: vs) (Value.ref (s1.heap.objs.size + 1) :: us) := .cons rfl r
  have hl : (Value.ref (s1.heap.objs.size + 1) :: us).length = ps.length := by
    have e := r2.length
    rw [F.len _ _ _ _ hq] at e
    exact e.symm
  have b := hb _ (Value.ref (s1.heap.objs.size + 1) :: us) I2.kIn (by rw [List.append_nil]; exact hl)
  rw [List.append_nil] at b
  refine wpAny_call (make_map (f := f) I1.kIn M.makes M.init (beq_iff_eq.mp M.fn) (codeAny_mono (F.run _ X.stack _ _ ⟨Value.ref (s1.heap.objs.size + 1) :: us, []⟩ (Value.ref (s1.heap.objs.size + 1) :: us) _ _ (E σ) (hr.make C us [])
    (I2.env0.make C us []) b r2 hq) fun r s' hq' => ?_))
  cases r with
  | error e => exact hx σ pins _ _ e s' I2 hq'
  | ok fl =>
    cases fl with
    | ret u =>
      obtain ⟨v, H', I3, rv, ev, q3⟩ := I2.after hq'
      subst ev
      exact ⟨rv, ⟨V.ref (s1.heap.objs.size + 1), H', I3, rfl, q3⟩⟩
    | next => exact False.elim hq'
    | brk => exact False.elim hq'
    | cont => exact False.elim hq'
end
/-! ### what is called of a class -/
def CalM (P : Program) (w : World) (K : PySem.W.Frag) (mg : Str → Option Value) (base : Heap) (CX : CXT) (k : Nat) (C : Addr) (m : Str) (ps : List Str) (sp : Sp) : Prop :=
  ∃ (f : Addr) (fd : FuncData), FnOk P w K mg base CX k f fd ps sp ∧ Meth K C m f ∧ Binds K fd ps []
def CalI (P : Program) (w : World) (K : PySem.W.Frag) (mg : Str → Option Value) (base : Heap) (CX : CXT) (k : Nat) (C : Addr) (x : Str) (ps : List Str) (sp : Sp) : Prop :=
  ∃ (f : Addr) (fd : FuncData), FnOk P w K mg base CX k f fd ps sp ∧ Mk K C f ∧ mg x = some (.ref C) ∧ Binds K fd ps []
/-- a def with defaults, all its arguments given -/
theorem FunD.all {K : PySem.W.Frag} {x qual : Str} {params : Arguments} {body : List Stmt} {scope : Scope} {dvs : List V} {f : Addr} {fd : FuncData} {ps : List Str} (F : FunD K x qual params body scope dvs [] f fd) (hd : dvs ≠ [])
    (h : ∀ (T : Addr) (kV doc pm : Value) (an : Option Addr) (cdv ct : Value) (us its : List Value), us.length = ps.length → its.length = dvs.length →
      ∃ k, bindArgs (PySem.W.fnOf x qual params body scope (.ref T) kV doc pm an cdv ct) ⟨us, []⟩ = seqItems? (.ref T) >>= k ∧ k (some its.toArray) = pure (ps.zip (us ++ its.drop dvs.length))) : Binds K fd ps [] := by
  obtain ⟨ds, r, b⟩ := F.binds1 ps.length dvs.length hd (by omega) h
  rw [List.drop_length] at r
  cases r
  exact b
theorem passLS {X : Cx} : ∀ σ, PassesAt (L2.CX X.prog X.w) X σ ((fun _ => E0) σ) := fun _ _ _ _ _ _ _ h => by
  obtain ⟨_, _, _, _, _, _, _, _, _, _, _, _, z⟩ := h
  exact z.elim
/-! ### isinstance with several classes, all, sum -/
section
variable {K : PySem.W.Frag} {X : Cx} {H : Hp} {Q : VK} {a : Addr} {x v : V} {α : Type} {r : Rp α} {xs : List α}
theorem isiTK (e : X.K = K) : CallR X (.builtin "isinstance") (rIsiT K) := e ▸ call_isiT
theorem isi_2 {S T1 T2 : String} {p : Addr} {b1 b2 : Bool} (hp : H p = some (.tup [.ty T1, .ty T2])) (hx : TyX K H x (.type S)) (e1 : kitB S T1 = some b1) (e2 : kitB S T2 = some b2) (q : Q (.bl (b1 || b2)) H) : ap3 (rIsiT K) [x, .ref p] H Q := by
  refine ⟨x, p, [.ty T1, .ty T2], .type S, [.type T1, .type T2], b1 || b2, rfl, hp, .cons (.ty T1) (.cons (.ty T2) .nil), hx, ?_, q⟩
  cases b1 with
  | true => exact ka_hit (kit_ty e1)
  | false =>
    cases b2 with
    | true => exact ka_cons (kit_ty e1) (ka_hit (kit_ty e2))
    | false => exact ka_cons (kit_ty e1) (ka_cons (kit_ty e2) ka_nil)
theorem allK (hc : X.calm = true) (e : X.K = K) : CallR X (.builtin "all") (rAll K) := e ▸ cr_all hc
theorem sumK (hc : X.calm = true) (e : X.K = K) : CallR X (.builtin "sum") (rSum K) := e ▸ cr_sum hc
theorem bools_of : ∀ {bs : List Bool} {vs : List V}, Paired (rB H) bs vs → vs = bs.map V.bl
  | _, _, .nil => rfl
  | _, _, .cons h t => by rw [bools_of t, show _ = V.bl _ from h]; rfl
theorem all_L {bs : List Bool} (h : Lq K rB H a bs) (q : Q (.bl (bs.all id)) H) : ap3 (rAll K) [.ref a] H Q := by
  obtain ⟨vs, h1, h2⟩ := h
  have e := bools_of h2
  subst e
  exact ⟨a, bs, rfl, h1, q⟩
theorem sum_L {ns : List Int} (h : Lq K rI H a ns) (q : Q (.int ns.sum) H) : ap3 (rSum K) [.ref a] H Q := by
  obtain ⟨vs, h1, h2⟩ := h
  have e := ints_of h2
  subst e
  exact ⟨a, ns, rfl, h1, q⟩
end
end Mir
set_option Elab.async false
set_option linter.all false
set_option maxRecDepth 100000
namespace Mir
open PySem PySem.Spec PyProof.Rows L2
variable [Nm]
/-! ### zip of a tuple and a list -/
def ItTL (K : PySem.W.Frag) (a b : Addr) : It :=
  ⟨fun i H => ∃ (xs ys : List V) (x y : V), SqT K H a xs ∧ SqL K H b ys ∧ xs[i]? = some x ∧ ys[i]? = some y,
    fun i H v H' => ∃ T x y, v = .ref T ∧ H T = none ∧ H' = upd H T (.tup [x, y]) ∧ (∀ xs, SqT K H a xs → xs[i]? = some x) ∧ ∀ ys, SqL K H b ys → ys[i]? = some y,
    fun i H => ∃ xs ys : List V, SqT K H a xs ∧ SqL K H b ys ∧ i ≤ xs.length ∧ i ≤ ys.length ∧ (i = xs.length ∨ i = ys.length)⟩
theorem turn_zipTL {P : Program} {w : World} {K : PySem.W.Frag} {elts : List Expr} {kk : Nat} {tpos : Pos} {a b z TI TO i1 i2 : Addr} (S : ZipSep2 z TI TO i1 i2 [i1, a] [i2, b]) :
    Turn P w K (.Tuple elts kk tpos) (ItTL K a b) [z, TI, TO, i1, i2] z (fun i h => IsZip h z TI TO .none ∧ IsTupOf2 h TI (.ref i1) (.ref i2) ∧ (∃ x y, IsTupOf2 h TO x y) ∧ h.IsTupleIter i1 a i ∧ h.IsListIter i2 b i) where
  mem := by simp
  obj := fun i h st c hc => by
    obtain ⟨s1, s2, ⟨x, y, s3⟩, ⟨o1, e1, _, d1⟩, ⟨o2, e2, _, d2⟩⟩ := st
    have q : c = z ∨ c = TI ∨ c = TO ∨ c = i1 ∨ c = i2 := by simpa using hc
    rcases q with rfl | rfl | rfl | rfl | rfl
    · exact ⟨_, s1, nofun⟩
    · exact ⟨_, s2, nofun⟩
    · exact ⟨_, s3, nofun⟩
    · exact ⟨o1, e1, fun v q => by rw [d1] at q; cases q⟩
    · exact ⟨o2, e2, fun v q => by rw [d2] at q; cases q⟩
  keep := fun i h h' st k => by
    obtain ⟨s1, s2, ⟨x, y, s3⟩, ⟨o1, e1, r1⟩, ⟨o2, e2, r2⟩⟩ := st
    exact ⟨k z (by simp) _ s1, k TI (by simp) _ s2, ⟨x, y, k TO (by simp) _ s3⟩, ⟨o1, k i1 (by simp) _ e1, r1⟩, ⟨o2, k i2 (by simp) _ e2, r2⟩⟩
  item := by
    intro X hP hw hK hc i pins s σ H E I fresh st go
    subst hP hw hK
    obtain ⟨s1, s2, ⟨x0, y0, s3⟩, s4, s5⟩ := st
    obtain ⟨xs, ys, x, y, qa, qb, gx, gy⟩ := go
    obtain ⟨us, rv, p1, _⟩ := I.tuple qa
    obtain ⟨ws, rw', p2, _⟩ := I.list qb
    obtain ⟨u, hu, ru⟩ := rv.get gx
    obtain ⟨t, ht, rt⟩ := rw'.get gy
    have zl : z < s.heap.objs.size := Heap.lt_size s1
    have ha : a ≠ i1 := fun e => by
      obtain ⟨o, e1, c1, _⟩ := s4
      obtain ⟨o', e2, c2, _⟩ := id p1
      rw [e, e1] at e2
      cases e2
      rw [c1] at c2
      injection c2 with q
      exact absurd q (by decide)
    have hb : b ≠ i2 := fun e => by
      obtain ⟨o, e1, c1, _⟩ := s5
      obtain ⟨o', e2, c2, _⟩ := id p2.isList
      rw [e, e1] at e2
      cases e2
      rw [c1] at c2
      injection c2 with q
      exact absurd q (by decide)
    have hh : (X.A).in1.handled = none := I.ok.hd hc
    have l1 : i < us.toArray.size := by
      have := (List.getElem?_eq_some_iff.mp hu).1
      rw [List.size_toArray]
      exact this
    have l2 : i < ws.toArray.size := by
      have := (List.getElem?_eq_some_iff.mp ht).1
      rw [List.size_toArray]
      exact this
    refine wpAny_pyNext_zipD2_item S (Draws.tuple hh i1 a ha us.toArray) (Draws.list hh i2 b hb ws.toArray) s1 s2 s3 ⟨s4, p1⟩ ⟨s5, p2.isList⟩ l1 l2 fun x1 x2 h' tk g1 g2 z' o' t1 t2 new sz kept => ?_
    have e1 : x1 = u := by
      have q : us.toArray[i]? = some u := by simpa using hu
      exact Option.some.inj (g1.symm.trans q)
    have e2 : x2 = t := by
      have q : ws.toArray[i]? = some t := by simpa using ht
      exact Option.some.inj (g2.symm.trans q)
    subst e1 e2
    refine ⟨_, rfl, wpAny_letOwnedTupleGo_zip (s := { s with heap := h', toks := tk }) z' fun h'' z'' sb => ?_⟩
    have pair : h''.get? s.heap.objs.size = some { cls := .type "tuple", data := .seq #[x1, x2] } := (sb.2 _ (Nat.ne_of_gt zl)).trans new
    have ok : ObjOk X.prog X.w (upd H s.heap.objs.size (.tup [x, y])) h'' s.heap.objs.size (.tup [x, y]) := ⟨by show 2 ≤ sizeLine; decide, [x1, x2], .cons ru (.cons rt .nil), ⟨_, pair, rfl, _, rfl⟩⟩
    have J : Inv X pins σ (upd H s.heap.objs.size (.tup [x, y])) { s with heap := h'', toks := tk } :=
      I.turnedNew (ch := [z, TI, TO, i1, i2]) (fun c o n q => (sb.2 c (fun e => n (by simp [e]))).trans (kept c o (fun e => n (by simp [e])) (fun e => n (by simp [e])) (fun e => n (by simp [e])) (fun e => n (by simp [e])) q)) fresh (Nat.le_refl _) ok
    have i1z : i1 ≠ z := fun e => S.zf1 (by rw [← e]; simp)
    have i2z : i2 ≠ z := fun e => S.zf2 (by rw [← e]; simp)
    refine ⟨.ref s.heap.objs.size, _, J, rfl, ⟨_, x, y, rfl, I.hok.fresh (Nat.le_refl _), rfl, fun l hl => by rw [I.tuple_inj hl qa]; exact gx, fun l hl => by rw [I.list_inj hl qb]; exact gy⟩, ⟨z'', ?_, ⟨x1, x2, ?_⟩, ?_, ?_⟩, fun c hc => ?_⟩
    · exact (sb.2 _ S.TIz).trans (kept _ _ S.TIz S.TITO S.TIi1 S.TIi2 s2)
    · exact (sb.2 _ S.TOz).trans o'
    · obtain ⟨⟨o, f1, f2⟩, _⟩ := t1
      exact ⟨o, (sb.2 _ i1z).trans f1, f2⟩
    · obtain ⟨⟨o, f1, f2⟩, _⟩ := t2
      exact ⟨o, (sb.2 _ i2z).trans f1, f2⟩
    · have lt : c < s.heap.objs.size := by
        have q : c = z ∨ c = TI ∨ c = TO ∨ c = i1 ∨ c = i2 := by simpa using hc
        rcases q with rfl | rfl | rfl | rfl | rfl
        · exact zl
        · exact Heap.lt_size s2
        · exact Heap.lt_size s3
        · obtain ⟨_, f, _⟩ := s4; exact Heap.lt_size f
        · obtain ⟨_, f, _⟩ := s5; exact Heap.lt_size f
      rw [upd_ne (Nat.ne_of_lt lt)]
      exact (fresh c hc).1
  done := by
    intro X hP hw hK hc i pins s σ H E I fresh st stop
    subst hP hw hK
    obtain ⟨s1, s2, ⟨x0, y0, s3⟩, s4, s5⟩ := st
    obtain ⟨xs, ys, qa, qb, b1, b2, b3⟩ := stop
    obtain ⟨us, rv, p1, _⟩ := I.tuple qa
    obtain ⟨ws, rw', p2, _⟩ := I.list qb
    have n1 := rv.length
    have n2 := rw'.length
    have ha : a ≠ i1 := fun e => by
      obtain ⟨o, e1, c1, _⟩ := s4
      obtain ⟨o', e2, c2, _⟩ := id p1
      rw [e, e1] at e2
      cases e2
      rw [c1] at c2
      injection c2 with q
      exact absurd q (by decide)
    have hb : b ≠ i2 := fun e => by
      obtain ⟨o, e1, c1, _⟩ := s5
      obtain ⟨o', e2, c2, _⟩ := id p2.isList
      rw [e, e1] at e2
      cases e2
      rw [c1] at c2
      injection c2 with q
      exact absurd q (by decide)
    have hh : (X.A).in1.handled = none := I.ok.hd hc
    exact wpAny_pyNext_zipD2_end S (Draws.tuple hh i1 a ha us.toArray) (Draws.list hh i2 b hb ws.toArray) s1 s2 s3 ⟨s4, p1⟩ ⟨s5, p2.isList⟩ (by simp; omega) (by simp; omega) (by simp; omega) fun h' tk kept =>
      ⟨rfl, I.turnedL (ch := [z, TI, TO, i1, i2]) (fun c o n q => kept c o (fun e => n (by simp [e])) (fun e => n (by simp [e])) (fun e => n (by simp [e])) (fun e => n (by simp [e])) q) fresh⟩
  self := fun A i s Q E st h => wpAny_pyIter_zip st.1 h
def iZipTL (K : PySem.W.Frag) (ta : TA) : TI := fun σ H R => ta σ H fun vs H1 => ∃ a b xs ys, vs = [.ref a, .ref b] ∧ SqT K H1 a xs ∧ SqL K H1 b ys ∧ R (ItTL K a b) H1
theorem pi_zipTL {X : Cx} {e1 e2 : Expr} {ta : TA} {p pos tpos : Pos} {elts : List Expr} {kk : Nat} {K : PySem.W.Frag} (hg : Gl X "zip") (hm : X.mg "zip" = none) (ha : PA X [e1, e2] ta) (hK : X.K = K)
    (hs : starEach [e1, e2] X.env = (false, eval e1 X.env) :: starEach [e2] X.env := by rfl) (hpl : (backTo pos (starEach [e2] X.env)).any (·.1) = false := by rfl) :
    PI X (.Tuple elts kk tpos) (.Call (.Name "zip" p) [e1, e2] [] pos) (iZipTL K ta) := by
  subst hK
  refine ⟨fun pins s σ H R I h => ?_⟩
  refine Call_ (ld_blt I hg hm PyProof.Rows.boot_zip (PyProof.Rows.callWith_type1 (thn (ha.run pos pins s σ H _ I h) fun us s1 hh => ?_) hs hpl))
  obtain ⟨vs, H1, I1, r1, a, b, xs, ys, ex, qa, qb, q⟩ := hh
  subst ex
  cases r1 with
  | cons ra rest =>
    cases rest with
    | cons rb rest =>
      cases rest
      cases ra
      cases rb
      obtain ⟨us, rv, p1, _⟩ := I1.tuple qa
      obtain ⟨ws, rw', p2, _⟩ := I1.list qb
      have la : a < s1.heap.objs.size := by obtain ⟨_, z, _⟩ := id p1; exact Heap.lt_size z
      have lb : b < s1.heap.objs.size := p2.lt
      refine zip_begins2 (begins_tuple a us.toArray) (begins_list b ws.toArray) p1 p2.isList fun h' z1 z2 z3 z4 z5 sz kept => wpAny_pyIter_zip z1 ?_
      have I2 : Inv X pins σ H1 { s1 with heap := h' } := I1.kept (t' := s1.toks) kept
      have S : ZipSep2 (s1.heap.objs.size + 4) (s1.heap.objs.size + 2) (s1.heap.objs.size + 3) s1.heap.objs.size (s1.heap.objs.size + 1) [s1.heap.objs.size, a] [s1.heap.objs.size + 1, b] := zip_sep2 (fp1 := [a]) (fp2 := [b]) (fun c hc => by
        have : c = a := by simpa using hc
        rw [this]
        exact la) fun c hc => by
        have : c = b := by simpa using hc
        rw [this]
        exact lb
      refine ⟨s1.heap.objs.size + 4, [s1.heap.objs.size + 4, s1.heap.objs.size + 2, s1.heap.objs.size + 3, s1.heap.objs.size, s1.heap.objs.size + 1], _, _, H1, rfl, I2, turn_zipTL S, ⟨z1, z2, ⟨_, _, z3⟩, ⟨_, z4, rfl, rfl⟩, ⟨_, z5, rfl, rfl⟩⟩, fun c hc => ?_, q⟩
      have ge : s1.heap.objs.size ≤ c := by
        have e : c = s1.heap.objs.size + 4 ∨ c = s1.heap.objs.size + 2 ∨ c = s1.heap.objs.size + 3 ∨ c = s1.heap.objs.size ∨ c = s1.heap.objs.size + 1 := by simpa using hc
        rcases e with e | e | e | e | e <;> rw [e]
        · exact Nat.le_add_right _ _
        · exact Nat.le_add_right _ _
        · exact Nat.le_add_right _ _
        · exact Nat.le_refl _
        · exact Nat.le_add_right _ _
      exact I1.fpOk ge (I1.hok.fresh ge)
section
variable {α β : Type} {K : PySem.W.Frag} {r : Rp α} {s : Rp β} {H H0 : Hp} {a b : Addr} {xs : List α} {ys : List β} {vs ws : List V}
theorem walk_zipTL : Walk (ItTL K a b) (min vs.length ws.length) (fun H => SqT K H a vs ∧ SqL K H b ws) (YPair (fun i => vs[i]?) fun i => ws[i]?) := by
  refine ⟨fun i H hi ⟨h1, h2⟩ => ?_, fun H ⟨h1, h2⟩ => ?_, fun i H x H' hi ⟨h1, h2⟩ h => ?_⟩
  · exact ⟨vs, ws, vs[i]'(by omega), ws[i]'(by omega), h1, h2, by simp [List.getElem?_eq_getElem (show i < vs.length by omega)], by simp [List.getElem?_eq_getElem (show i < ws.length by omega)]⟩
  · exact ⟨vs, ws, h1, h2, by omega, by omega, by omega⟩
  · obtain ⟨T, x, y, rfl, hn, rfl, ex, ey⟩ := h
    exact ⟨T, x, y, rfl, hn, rfl, ex vs h1, ey ws h2⟩
theorem wk_zipTL [Imm r] [Imm s] (hp : Paired (r H0) xs vs) (hq : Paired (s H0) ys ws) : Wk (ItTL K a b) (xs.zip ys) (fun H => SqT K H a vs ∧ SqL K H b ws) (rP K r s) H0 := ⟨_, by rw [List.length_zip, Paired.length hp, Paired.length hq]; exact walk_zipTL, fun A i H v H' g hi h => by
  obtain ⟨T, x, y, rfl, hn, rfl, ex, ey⟩ := h
  obtain ⟨z, hz, hr⟩ := Paired.get1 hp ex
  obtain ⟨u, hu, hs⟩ := Paired.get1 hq ey
  exact ⟨(z, u), zip_get hz hu, Gr.new hn, T, x, y, rfl, SqT.of upd_same, Imm.mono (g.of0' (Gr.new hn)) hr, Imm.mono (g.of0' (Gr.new hn)) hs⟩⟩
def zipTLA (K : PySem.W.Frag) (R : It → Hp → Prop) (vs : List V) (H1 : Hp) : Prop := ∃ a b xs ys, vs = [.ref a, .ref b] ∧ SqT K H1 a xs ∧ SqL K H1 b ys ∧ R (ItTL K a b) H1
theorem rd_izipTL {l : TA} {σ : L2.St} {R : It → Hp → Prop} (h : l σ H (zipTLA K R)) : iZipTL K l σ H R := h
theorem zip_tl {R : It → Hp → Prop} {u v : V} {xs ys : List V} (e1 : u = .ref a) (e2 : v = .ref b) (h1 : SqT K H a xs) (h2 : SqL K H b ys) (h : R (ItTL K a b) H) : zipTLA K R [u, v] H := ⟨a, b, xs, ys, by rw [e1, e2], h1, h2, h⟩
end
end Mir
set_option Elab.async false
set_option linter.all false
set_option maxRecDepth 100000
namespace Mir
open PySem PySem.Spec PyProof.Rows L2
variable [Nm]
/-! ### texts -/
def strOk (y : Str) : Prop := y.length ≤ sizeLine
instance (y : Str) : Decidable (strOk y) := inferInstanceAs (Decidable (_ ≤ _))
def fmtOk (i : Int) : Prop := i.natAbs.log2 < 1920
instance (i : Int) : Decidable (fmtOk i) := inferInstanceAs (Decidable (_ < _))
section
variable {σ : L2.St} {H : Hp} {Q : VK} {te t : TE} {ts : List TE} {acc y : Str} {i : Int}
def fmtA (Q : VK) (x : V) (H1 : Hp) : Prop := (∃ y : Str, x = .str y ∧ y.length ≤ sizeLine ∧ Q (.str y) H1) ∨ ∃ i : Int, x = .int i ∧ i.natAbs.log2 < 1920 ∧ Q (.str (toString i)) H1
theorem rd_fmt (h : te σ H (fmtA Q)) : tFmt te σ H Q := h
theorem fmt_I (c : fmtOk i) (h : Q (.str (toString i)) H) : fmtA Q (.int i) H := .inr ⟨i, rfl, c, h⟩
theorem fmt_S (c : strOk y) (h : Q (.str y) H) : fmtA Q (.str y) H := .inl ⟨y, rfl, c, h⟩
def jsA (ts : List TE) (acc : Str) (σ : L2.St) (R : Str → Hp → Prop) (x : V) (H1 : Hp) : Prop := ∃ y : Str, x = .str y ∧ (acc ++ y).length ≤ sizeLine ∧ tJs ts (acc ++ y) σ H1 R
theorem rd_jc {R : Str → Hp → Prop} (h : t σ H (jsA ts acc σ R)) : tJs (t :: ts) acc σ H R := h
theorem rd_js {R : Str → Hp → Prop} (c : strOk (acc ++ y)) (h : tJs ts (acc ++ y) σ H R) : jsA ts acc σ R (.str y) H := ⟨y, rfl, c, h⟩
theorem rd_j0 {R : Str → Hp → Prop} (h : R acc H) : tJs [] acc σ H R := h
theorem rd_jd (h : tJs ts Str.empty σ H fun out H1 => Q (.str out) H1) : (fun σ H Q => tJs ts Str.empty σ H fun out H1 => Q (.str out) H1 : TE) σ H Q := h
end
section
variable {K : PySem.W.Frag} {X : Cx} {σ : L2.St} {H : Hp} {Q : VK} {to te : TE} {a : Addr} {sep : Str} {ys : List Str} {o e : Expr}
def rJoin (K : PySem.W.Frag) (x : V) (xs : List V) (H : Hp) (Q : VK) : Prop := ∃ a p, ∃ ys : List Str, x = .str a ∧ xs = [.ref p] ∧ (SqL K H p (ys.map V.str) ∨ SqT K H p (ys.map V.str)) ∧ (ys.map (·.length)).sum + ys.length * a.length ≤ 16777216 ∧ Q (.str (Txt.join a ys)) H
theorem pe_joinK {apos pos : Pos} (ho : PE X o to) (he : PE X e te) (hK : X.K = K) (hs : starEach [e] X.env = [(false, eval e X.env)] := by rfl) (hbase : attributeBase o "join" X.env (eval o X.env) = eval o X.env := by rfl) (hline : (apos.endLine == pos.line) = true := by rfl) :
    PE X (.Call (.Attribute o "join" apos) [e] [] pos) (tM1 (rJoin K) to te) := by
  subst hK
  exact pe_join ho he hs hbase hline
def joinA (K : PySem.W.Frag) (Q : VK) (sep : Str) (y : V) (H2 : Hp) : Prop := rJoin K (.str sep) [y] H2 Q
def joinOk (sep : Str) (ys : List Str) : Prop := (ys.map (·.length)).sum + ys.length * sep.length ≤ 16777216
instance (sep : Str) (ys : List Str) : Decidable (joinOk sep ys) := inferInstanceAs (Decidable (_ ≤ _))
theorem rd_join (h : te σ H (joinA K Q sep)) : tM1 (rJoin K) (tC (.str sep)) te σ H Q := ⟨⟨_, rfl⟩, h⟩
theorem strs_of : ∀ {ys : List Str} {vs : List V}, Paired (rS H) ys vs → vs = ys.map V.str
  | _, _, .nil => rfl
  | _, _, .cons h t => by rw [strs_of t, show _ = V.str _ from h]; rfl
theorem join_L (h : Lq K rS H a ys) (c : joinOk sep ys) (q : Q (.str (Txt.join sep ys)) H) : joinA K Q sep (.ref a) H := by
  obtain ⟨vs, h1, h2⟩ := h
  have e := strs_of h2
  subst e
  exact ⟨sep, a, ys, rfl, rfl, .inl h1, c, q⟩
end
end Mir
set_option Elab.async false
set_option linter.all false
set_option maxRecDepth 100000
namespace Mir
open PySem PySem.Spec PyProof.Rows L2
variable [Nm]
/-! ### dicts with tuples of any origin as keys -/
/-- an entry: the key, where its tuple stands, the value -/
abbrev Ent := List L2.Key × Addr × V
def EntOk (p : Ent) (q : List L2.Key × Addr × Value) : Prop := p.1 = q.1 ∧ p.2.1 = q.2.1 ∧ RelV p.2.2 q.2.2
/-- the one object of such a dict -/
def daAt (a : Addr) (d : List Ent) (h : Heap) : Prop :=
  d.length ≤ sizeLine ∧ (a == sysModules) = false ∧ ∃ o es ep xs, h.get? a = some o ∧ o.ExactDict ∧ o.data = .dict es ep ∧ (∀ (P : Program) (w : World), es.toList = xs.map (entryOfKey (tupleKind (mixKind P w)))) ∧ (xs.map (·.1)).Nodup ∧ Paired EntOk d xs
def DA (a : Addr) (d : List Ent) : HO := .ext (daAt a d)
/-- numbers alone -/
def IntK (k : List L2.Key) : Prop := ∃ n : List Int, k = n.map Sum.inl
/-- a tuple that may be a key -/
def KeyT (K : PySem.W.Frag) (H : Hp) (b : Addr) (k : List L2.Key) : Prop := IntK k ∧ SqT K H b (k.map kV)
def KeysT (K : PySem.W.Frag) (H : Hp) (d : List Ent) : Prop := ∀ p ∈ d, KeyT K H p.2.1 p.1
def atA (d : List Ent) (k : List L2.Key) : Option (Addr × V) := (d.find? fun p => decide (p.1 = k)).map (·.2)
def putA (d : List Ent) (k : List L2.Key) (b : Addr) (v : V) : List Ent := if (atA d k).isSome then d.map fun p => if p.1 = k then (p.1, p.2.1, v) else p else d ++ [(k, b, v)]
theorem ent_any {P P' : Program} {w w' : World} {xs : List (List L2.Key × Addr × Value)} (h : ∀ x ∈ xs, IntK x.1) : xs.map (entryOfKey (tupleKind (mixKind P w))) = xs.map (entryOfKey (tupleKind (mixKind P' w'))) := by
  refine List.map_congr_left fun x hx => ?_
  obtain ⟨k, b, v⟩ := x
  obtain ⟨n, e⟩ := h _ hx
  have e : k = n.map Sum.inl := e
  subst e
  unfold entryOfKey
  have z : (tupleKind (mixKind P w)).hash (n.map Sum.inl) = (tupleKind (mixKind P' w')).hash (n.map Sum.inl) := by
    show tupleKeyHash _ _ = tupleKeyHash _ _
    unfold tupleKeyHash
    rw [List.map_map, List.map_map]
    rfl
  rw [z]
theorem stored_int {xs : List (List L2.Key × Addr × Value)} {k : List L2.Key} {b : Addr} {u : Value} (h : ∀ x ∈ xs, IntK x.1) (hk : IntK k) : ∀ x ∈ storedH xs k b u, IntK x.1 := by
  unfold storedH
  split
  · intro x hx
    obtain ⟨y, hy, e⟩ := List.mem_map.mp hx
    subst e
    unfold putAt
    split
    · exact h y hy
    · exact h y hy
  · intro x hx
    rcases List.mem_append.mp hx with z | z
    · exact h x z
    · rw [List.mem_singleton.mp z]; exact hk
theorem da_ok {P : Program} {w : World} {H : Hp} {h : Heap} {a : Addr} {d : List Ent} (x : daAt a d h) : ObjOk P w H h a (DA a d) := by
  refine ⟨x, ?_, ?_⟩
  · obtain ⟨_, _, o, _, _, _, e, _⟩ := x
    exact ⟨o, e⟩
  · rintro h1 h2 ⟨z, y, o, es, ep, xs, e, r⟩ k
    exact ⟨z, y, o, es, ep, xs, k _ e, r⟩
theorem atA_rel {d : List Ent} {xs : List (List L2.Key × Addr × Value)} (r : Paired EntOk d xs) (k : List L2.Key) : RelO ((atA d k).map (·.2)) ((atKey xs k).map (·.2)) := by
  induction r with
  | nil => exact True.intro
  | @cons p q ps qs h t ih =>
    obtain ⟨e1, e2, e3⟩ := h
    unfold atA atKey at ih ⊢
    rw [List.find?_cons, List.find?_cons, e1]
    by_cases z : q.1 = k
    · rw [decide_eq_true z]; exact e3
    · rw [decide_eq_false z]; exact ih
theorem atA_some {d : List Ent} {xs : List (List L2.Key × Addr × Value)} (r : Paired EntOk d xs) (k : List L2.Key) : (atA d k).isSome = (atKey xs k).isSome := by
  have := (atA_rel r k).isSome_eq
  rwa [Option.isSome_map, Option.isSome_map] at this
theorem putA_rel {d : List Ent} {xs : List (List L2.Key × Addr × Value)} (r : Paired EntOk d xs) (k : List L2.Key) {b : Addr} {v : V} {u : Value} (rv : RelV v u) : Paired EntOk (putA d k b v) (storedH xs k b u) := by
  unfold putA storedH
  rw [atA_some r k]
  by_cases z : (atKey xs k).isSome = true
  · rw [if_pos z, if_pos z]
    clear z
    induction r with
    | nil => exact .nil
    | @cons p q ps qs h t ih =>
      obtain ⟨e1, e2, e3⟩ := h
      rw [List.map_cons, List.map_cons]
      refine .cons ?_ ih
      unfold putAt
      rw [e1]
      by_cases y : q.1 = k
      · rw [if_pos y, if_pos y]; exact ⟨rfl, e2, rv⟩
      · rw [if_neg y, if_neg y]; exact ⟨e1, e2, e3⟩
  · rw [if_neg z, if_neg z]; exact Paired.snoc r ⟨rfl, rfl, rv⟩
theorem putA_len (d : List Ent) (k : List L2.Key) (b : Addr) (v : V) : (putA d k b v).length ≤ d.length + 1 := by
  unfold putA
  split
  · rw [List.length_map]; omega
  · simp
section
variable {X : Cx} {A : Around} {pins : List (Addr × Obj)} {σ : L2.St} {H : Hp} {s : Shared} {E : Value → Shared → Prop} {a b : Addr} {d : List Ent} {k : List L2.Key} {v : V} {r : Value}
theorem keyT_of (I : Inv X pins σ H s) (h : KeyT X.K H b k) : (tupleKind (mixKind X.prog X.w)).is s.heap k b := by
  obtain ⟨its, r, ⟨o, h1, h2, n, h3⟩, _⟩ := I.tuple h.2
  exact ⟨o, its.toArray, n, h1, h2, h3, by simpa using items_are r⟩
theorem da_at (I : Inv X pins σ H s) (e : Rd H a (DA a d)) : daAt a d s.heap :=
  (show ObjOk X.prog X.w H s.heap a (DA a d) from rd_of I.hok e).1
theorem da_keys {xs : List (List L2.Key × Addr × Value)} {K : PySem.W.Frag} (r : Paired EntOk d xs) (q : KeysT K H d) : ∀ x ∈ xs, KeyT K H x.2.1 x.1 := by
  induction r with
  | nil => intro x hx; exact nomatch hx
  | @cons p y ps ys h t ih =>
    intro x hx
    rcases List.mem_cons.mp hx with e | hx
    · subst e
      have := q p (List.mem_cons_self ..)
      rw [h.1, h.2.1] at this
      exact this
    · exact ih (fun p hp => q p (List.mem_cons_of_mem _ hp)) x hx
theorem da_dict (I : Inv X pins σ H s) (e : Rd H a (DA a d)) (q : KeysT X.K H d) : (a == sysModules) = false ∧ d.length ≤ sizeLine ∧ ∃ xs, Paired EntOk d xs ∧ s.heap.DictOfH (tupleKind (mixKind X.prog X.w)) a xs := by
  obtain ⟨z, y, o, es, ep, xs, h1, h2, h3, h4, h5, r⟩ := da_at I e
  exact ⟨y, z, xs, r, o, es, ep, h1, h2, h3, h4 _ _, fun x hx => keyT_of I (da_keys r q x hx), h5⟩
/-- a look into it -/
theorem da_get {p : Addr × V} {Q : Value → Shared → Prop} (hu : A.units + 1 < cLine) (I : Inv X pins σ H s) (e : Rd H a (DA a d)) (q : KeysT X.K H d) (kb : KeyT X.K H b k) (hp : atA d k = some p)
    (h : ∀ w' s', Inv X pins σ H s' → RelV p.2 w' → Q w' s') : wpAny (model X.prog X.w) A (getItem (.ref a) (.ref b)) Q E s := by
  obtain ⟨_, _, xs, r, dd⟩ := da_dict I e q
  have z : RelO (some p.2) ((atKey xs k).map (·.2)) := by
    have z := atA_rel r k
    rw [hp] at z
    exact z
  obtain ⟨w', hw, rw'⟩ := RelO.some_of (v := p.2) (o := (atKey xs k).map (·.2)) z
  obtain ⟨p', hp', e'⟩ := Option.map_eq_some_iff.mp hw
  refine wpAny_getItem_heap (tupleKind_room_in1 hu) (keyT_of I kb) dd hp' ?_
  rw [e']
  exact h w' _ (I.tok _) rw'
/-- an entry put in by a comprehension -/
theorem da_set {Q : Unit → Shared → Prop} (hu : A.units + 1 < cLine) (I : Inv X pins σ H s) (e : H a = some (DA a d)) (q : KeysT X.K H d) (kb : KeyT X.K H b k) (hl : d.length < sizeLine) (rv : RelV v r)
    (h : ∀ s', Inv X pins σ (upd H a (DA a (putA d k b v))) s' → Q () s') : wpAny (model X.prog X.w) A (dictSet a (.ref b) r) Q E s := by
  obtain ⟨y, z, xs, rel, dd⟩ := da_dict I (.inl e) q
  have hz : xs.length ≤ sizeLine := by rw [← Paired.length rel]; exact z
  have hl2 : (putA d k b v).length ≤ sizeLine := by have := putA_len d k b v; omega
  refine wpAny_dictSet_heap (hsz := hz) (show A.units < cLine by omega) (keyT_of I kb) dd fun h' dd' hs => h _ ?_
  obtain ⟨o, es, ep, hq, h2, h3, h4, _, h5⟩ := dd'
  exact d_write I (by rw [e]; exact True.intro) hs ⟨o, hq⟩ (da_ok ⟨hl2, y, o, es, ep, _, hq, h2, h3, fun P w => h4.trans (ent_any (stored_int (fun x hx => (da_keys rel q x hx).1) kb.1)), h5, putA_rel rel k rv⟩)
/-- the empty one -/
theorem da_new (h : Heap) (hb : sysModules < h.objs.size) : daAt h.objs.size [] (h.push { cls := .type "dict", data := .dict #[] }) :=
  ⟨Nat.zero_le _, beq_eq_false_iff_ne.mpr (Ne.symm (Nat.ne_of_lt hb)), _, #[], 0, [], Heap.get?_push_size _ rfl, ⟨rfl, rfl, rfl⟩, rfl, fun _ _ => rfl, List.nodup_nil, .nil⟩
end
/-! ### {k: v for ..} whose keys are tuples -/
/-- the end of a turn -/
def dputA (K : PySem.W.Frag) (D : Addr) (Nx : Hp → Prop) (y z : V) (H : Hp) : Prop :=
  ∃ b d k, y = .ref b ∧ KeyT K H b k ∧ H D = some (DA D d) ∧ KeysT K H d ∧ d.length < sizeLine ∧ Nx (upd H D (DA D (putA d k b z)))
/-- the turns of an iterator, a dict at D -/
def dturns (K : PySem.W.Frag) (g : TG) (tk tv : TE) (vs : List Nat) (σ : L2.St) (Q : VK) (J : It) (H1 : Hp) : Prop :=
  ∀ D, H1 D = none → ∃ W : Nat → Nat → Hp → Prop, (∃ m, W 0 m (upd H1 D (DA D []))) ∧ ∀ i m H, W i m H →
    (J.stop i H ∧ Q (.ref D) H) ∨ (J.go i H ∧ ∃ Nx : Hp → Prop, (∀ H', Nx H' → ∃ m', m' < m ∧ W (i + 1) m' H') ∧ ∀ x H', J.yld i H x H' →
      g x (wipe σ vs) H' fun σ2 H2 => wipe σ2 vs = wipe σ vs ∧ tk σ2 H2 fun y H4 => tv σ2 H4 fun z H5 => dputA K D Nx y z H5)
def tDcA (K : PySem.W.Frag) (wi : TI) (g : TG) (tk tv : TE) (vs : List Nat) : TE := fun σ H Q => wi σ H (dturns K g tk tv vs σ Q)
section
variable {X : Cx}
theorem pe_dcA {K : PySem.W.Frag} (eK : X.K = K) {kx vx tg iter : Expr} {scope : Scope} {own : List (Str × Nat)} {pos : Pos} {wi : TI} {g : TG} {tk tv : TE} (hu : X.A.units + 1 < cLine) (hc : X.calm = true) (hN : X.N.Nodup) (hi : PI X tg iter wi) (ok : BlkOk X.N X.env.scope scope own)
    (hg : ∀ (s : Shared) (H : Hp) (C : Addr) (cl : List (Str × Addr)) (fp : List Addr), PG (X.blk s H scope (compEnvC scope cl C X.env) fp) tg g)
    (hk : ∀ (s : Shared) (H : Hp) (C : Addr) (cl : List (Str × Addr)) (fp : List Addr), PE (X.blk s H scope (compEnvC scope cl C X.env) fp) kx tk)
    (hv : ∀ (s : Shared) (H : Hp) (C : Addr) (cl : List (Str × Addr)) (fp : List Addr), PE (X.blk s H scope (compEnvC scope cl C X.env) fp) vx tv) (hs : ∀ x, foldedSetIterable iter X.env x = pure x := by intro _; rfl) :
    PE X (.DictComp kx vx [⟨tg, iter, [], 0⟩] scope pos) (tDcA K wi g tk tv (own.map (·.2))) := by
  subst eK
  refine ⟨fun pins s σ H Q I h => ?_⟩
  rw [arm_eval_DictComp]
  have captured : ∀ y ∈ scope.names, y.2 = .free → ∃ c, X.env.cells.lookup y.1 = some c := fun y hy e =>
    I.ok.has _ (ok.free y hy e)
  refine wpAny_comprehension_free (use := none) rfl hs (closure_ok captured) ok.kind (fun y hy e => by rw [ok.uniq y hy, e])
    (thn (hi.run pins s σ H _ I h) fun _ s1 h1 => thn h1 fun _ s2 ⟨it, fp, tn, J, H2, ev, I2, T, t0, f2, turns⟩ => ?_)
  subst ev
  refine wpAny_newObj_type (newEnv_comp ?_)
  -- the dict, and the heap with it
  have hDn : H2 s2.heap.objs.size = none := I2.hok.fresh (Nat.le_refl _)
  obtain ⟨W, ⟨m0, w0⟩, turn⟩ := turns _ hDn
  have I3 := I2.laid (t' := s2.toks) (h' := s2.heap.push { cls := .type "dict", data := .dict #[] }) (o := DA s2.heap.objs.size []) (fun b o e => Heap.get?_push_of_some _ e) (Nat.le_refl _) (da_ok (da_new _ I2.big))
  have small : ∀ b ∈ fp, b < s2.heap.objs.size := fun b hb => let ⟨o, e, _⟩ := T.obj _ _ t0 b hb; Heap.lt_size e
  have f3 : ∀ b ∈ fp, FpOk X pins (upd H2 s2.heap.objs.size (DA s2.heap.objs.size [])) b ∧ b < (s2.heap.push { cls := .type "dict", data := .dict #[] }).objs.size := fun b hb =>
    ⟨⟨by rw [upd_ne (Nat.ne_of_lt (small b hb))]; exact (f2 b hb).1, (f2 b hb).2⟩, by rw [Heap.size_push]; exact Nat.lt_succ_of_lt (small b hb)⟩
  have t3 : tn 0 (s2.heap.push { cls := .type "dict", data := .dict #[] }) := T.keep _ _ _ t0 fun b _ o e => Heap.get?_push_of_some _ e
  obtain ⟨D, hD⟩ : ∃ D, D = s2.heap.objs.size := ⟨_, rfl⟩
  obtain ⟨s3, hs3⟩ : ∃ z : Shared, z = { s2 with heap := s2.heap.push { cls := .type "dict", data := .dict #[] } } := ⟨_, rfl⟩
  have e3 : s3.heap = s2.heap.push { cls := .type "dict", data := .dict #[] } := by rw [hs3]
  rw [← hD] at I3 w0 turn f3
  rw [← e3] at t3 f3
  rw [← hs3] at I3
  obtain ⟨H3, hH3⟩ : ∃ z : Hp, z = upd H2 D (DA D []) := ⟨_, rfl⟩
  rw [← hH3] at I3 w0 f3
  have I4 := block_start I3 ok hN f3
  have none3 : ∀ b ∈ fp, H3 b = none := fun b hb => (f3 b hb).1.1
  have t4 : tn 0 (pushCells (s3.heap.push { cls := .type "dict", data := .dict #[] }) scope.names) := T.keep _ _ _ t3 fun b _ o e => pushCells_keeps _ _ _ _ (Heap.get?_push_of_some _ e)
  have pg := hg s3 H3 s3.heap.objs.size (cellsFrom (s3.heap.objs.size + 1) scope.names (cloFrom X.env.cells scope.names [])) fp
  have pk := hk s3 H3 s3.heap.objs.size (cellsFrom (s3.heap.objs.size + 1) scope.names (cloFrom X.env.cells scope.names [])) fp
  have pv := hv s3 H3 s3.heap.objs.size (cellsFrom (s3.heap.objs.size + 1) scope.names (cloFrom X.env.cells scope.names [])) fp
  rw [← hD, ← hs3]
  obtain ⟨ce, hce⟩ : ∃ z : Env, z = compEnvC scope (cellsFrom (s3.heap.objs.size + 1) scope.names (cloFrom X.env.cells scope.names [])) s3.heap.objs.size X.env := ⟨_, rfl⟩
  show codeAny _ _ (.compStart (.DictComp kx vx [⟨tg, iter, [], 0⟩] scope pos) 0 (.ref it) (.ref D) (compEnvC scope (cellsFrom (s3.heap.objs.size + 1) scope.names (cloFrom X.env.cells scope.names [])) s3.heap.objs.size X.env)) (compPost (model X.prog X.w) X.A X.xe none _ (.ref D) s3.heap.objs.size) { s3 with heap := pushCells (s3.heap.push { cls := .type "dict", data := .dict #[] }) scope.names }
  rw [← hce] at I4 pg pk pv ⊢
  have cL : ce.locals = s3.heap.objs.size := by rw [hce]; rfl
  obtain ⟨s4, hs4⟩ : ∃ z : Shared, z = { s3 with heap := pushCells (s3.heap.push { cls := .type "dict", data := .dict #[] }) scope.names } := ⟨_, rfl⟩
  rw [← hs4] at I4 ⊢
  have t4 : tn 0 s4.heap := by rw [hs4]; exact t4
  obtain ⟨B, hB⟩ : ∃ z : Cx, z = X.blk s3 H3 scope ce fp := ⟨_, rfl⟩
  have stand : ∀ {σ' : L2.St} {H' : Hp} {s' : Shared}, Inv (X.blk s3 H3 scope ce fp) [] σ' H' s' → (∀ b ∈ fp, H' b = none) → ∀ b ∈ fp, FpOk (X.blk s3 H3 scope ce fp) [] H' b := fun I' n b hb =>
    ⟨n b hb, (I'.ok.exf b hb).1, I'.ok.exfs b hb, .inl hb, fun x c e => (I'.ok.exf b hb).2 x c e, fun p hp => absurd (show p ∈ ([] : List (Addr × Obj)) ++ [] from hp) (by simp)⟩
  refine (fun loop => codeAny_compStart_dict loop (T.self X.A 0 _ _ _ t4 loop)) ?_
  refine compLoop_anyD (fun n s' => ∃ i H', W i n H' ∧ tn i s'.heap ∧ (∀ b ∈ fp, H' b = none) ∧ Inv (X.blk s3 H3 scope ce fp) [] (wipe σ (own.map (·.2))) H' s') ?_ m0 ⟨0, H3, w0, t4, none3, I4⟩
  rintro n s5 ⟨i, H5, w5, t5, n5, I5⟩
  rcases turn i n H5 w5 with ⟨stop, q5⟩ | ⟨go, Nx, hNx, step⟩
  · -- no more items: back in the def
    refine thnF (T.done (X.blk s3 H3 scope ce fp) rfl rfl rfl hc i [] s5 _ H5 (fun _ _ => False) I5 (stand I5 n5) t5 stop) fun r s6 ⟨er, I6⟩ => ?_
    subst er
    have I7 : Inv X pins σ H5 s6 := I3.call' (ch := fp) I6.os I6.base I6.hok I6.bare fun b hb => let f := (f3 b hb).1.2; ⟨f.2.2.1, f.1, f.2.2.2.1, f.2.2.2.2⟩
    have free : H5 s3.heap.objs.size = none := by rw [← cL]; exact I6.free
    obtain ⟨m, hn, _⟩ := I6.loc
    have hn : s6.heap.Ns s3.heap.objs.size m := by rw [← cL]; exact hn
    obtain ⟨f0, f1, _, f3', f4, f5⟩ := I3.fpOk (Nat.le_refl _) free
    exact ⟨m, hn, fun h'' sb => ⟨.ref D, H5, I7.turned (t' := s6.toks) (fun b o hb e => (sb.2 b hb).trans e) f0 f1 f3' f4 f5, rfl, q5⟩⟩
  · refine thnF (T.item (X.blk s3 H3 scope ce fp) rfl rfl rfl hc i [] s5 _ H5 (fun _ _ => False) I5 (stand I5 n5) t5 go) fun r s6 ⟨u, er, h6⟩ => ?_
    subst er
    refine thnF h6 fun _ s7 ⟨x, H7, I7, r7, y7, t7, n7⟩ => ?_
    refine thnF (pg.run _ s7 _ H7 x u _ (I7.pinned (stand I7 n7) (T.obj _ _ t7)) r7 (step x H7 y7)) fun _ s8 ⟨σ8, H8, I8, hw, q8⟩ => ?_
    refine wpAny_pure ?_
    rw [if_pos rfl]
    refine thnF (pk.run _ s8 σ8 H8 _ I8 q8) fun yv s9 ⟨y, H9, I9, r9, q9⟩ => ?_
    refine thnF (pv.run _ s9 σ8 H9 _ I9 q9) fun zv s10 ⟨z, H10, I10, r10, b, d, k, ey, kb, hd, ks, hl, nx⟩ => ?_
    subst ey
    obtain rfl : yv = Value.ref b := r9
    refine da_set (X := X.blk s3 H3 scope ce fp) hu I10 hd ks kb hl r10 fun s11 I11 => ?_
    obtain ⟨m', hm, w'⟩ := hNx _ nx
    have pin : ∀ c ∈ fp, ∀ o, s7.heap.get? c = some o → s11.heap.get? c = some o ∧ upd H10 D (DA D (putA d k b z)) c = none := fun c hb o e =>
      let z := I11.pin (c, o) (List.mem_append_right _ (List.mem_append_right _ (mem_pinsAt hb e)))
      ⟨z.1, z.2.1⟩
    refine ⟨m', hm, i + 1, _, w', T.keep _ _ _ t7 fun c hb o e => (pin c hb o e).1, fun c hb => ?_, (I11.unpinned (pins := [])).weak (by rw [← hw, wipe_length]) fun j v e => ?_⟩
    · obtain ⟨o, e, _⟩ := T.obj _ _ t7 c hb
      exact (pin c hb o e).2
    · rw [← hw] at e
      exact (wipe_some e).1
end
/-! ### looked up -/
def dgetA (K : PySem.W.Frag) (Q : VK) (x y : V) (H : Hp) : Prop := ∃ a b d k p, x = .ref a ∧ y = .ref b ∧ Rd H a (DA a d) ∧ KeysT K H d ∧ KeyT K H b k ∧ atA d k = some p ∧ Q p.2 H
def tDGetA (K : PySem.W.Frag) (td ty : TE) : TE := fun σ H Q => td σ H fun x H1 => ty σ H1 (dgetA K Q x)
section
variable {X : Cx} {K : PySem.W.Frag}
theorem pe_dgetA {o i : Expr} {pos : Pos} {td ty : TE} (eK : X.K = K) (hu : X.A.units + 1 < cLine) (ho : PE X o td) (hi : PE X i ty) (hs : NoSl i) : PE X (.Subscript o i pos) (tDGetA K td ty) := by
  subst eK
  refine ⟨fun pins s σ H Q I h => subD_of PySem.F.slot_dict_getitem.lookup hs (thn (ho.run pins s σ H _ I h) fun u s1 ⟨x, H1, I1, rx, q1⟩ => thn (hi.run pins s1 σ H1 _ I1 q1) fun iv s2 ⟨y, H2, I2, ry, a, b, d, k, p, ex, ey, e, ks, kb, at_, q⟩ => ?_)⟩
  subst ex ey
  obtain rfl : u = Value.ref a := rx
  obtain rfl : iv = Value.ref b := ry
  obtain ⟨_, _, xs, _, dd⟩ := da_dict I2 e ks
  exact ⟨dd.typeIs, da_get hu I2 e ks kb at_ fun w' s3 I3 rw' => ⟨p.2, H2, I3, rw', q⟩⟩
end
/-! ### as mirrors: keys rows of numbers -/
def atM {κ β : Type} [DecidableEq κ] (d : List (κ × β)) (k : κ) : Option β := (d.find? fun p => decide (p.1 = k)).map (·.2)
def putM {κ β : Type} [DecidableEq κ] (d : List (κ × β)) (k : κ) (x : β) : List (κ × β) := if (atM d k).isSome then d.map fun p => if p.1 = k then (p.1, x) else p else d ++ [(k, x)]
/-- d[k]; nothing is said of a key that is not there -/
def getM {κ β : Type} [DecidableEq κ] (d : List (κ × β)) (k : κ) : R β := match atM d k with
  | some x => .ok x
  | none => .out
section
variable {β : Type} {r : Rp β} {K : PySem.W.Frag} {H H' : Hp} {a b D p : Addr} {A : List Addr} {d : List (List Int × β)} {k : List Int} {x : β} {y z v : V}
def EntM (r : Rp β) (H : Hp) (p : List Int × β) (q : Ent) : Prop := q.1 = p.1.map Sum.inl ∧ r H p.2 q.2.2
/-- a dict in the making -/
def LsD (K : PySem.W.Frag) (r : Rp β) (H : Hp) (a : Addr) (d : List (List Int × β)) : Prop := ∃ e, H a = some (DA a e) ∧ KeysT K H e ∧ Paired (EntM r H) d e
/-- one that stands still -/
def rDA (K : PySem.W.Frag) (r : Rp β) : Rp (List (List Int × β)) := fun H d v => ∃ a o e, v = .ref a ∧ H a = some (.frz o (DA a e)) ∧ KeysT K H e ∧ Paired (EntM r H) d e
theorem inl_inj : ∀ {m n : List Int}, (m.map Sum.inl : List L2.Key) = n.map Sum.inl → m = n
  | [], [], _ => rfl
  | _ :: _, _ :: _, e => by
    rw [List.map_cons, List.map_cons] at e
    injection e with e1 e2
    injection e1 with e1
    rw [e1, inl_inj e2]
theorem atM_rel {e : List Ent} (h : Paired (EntM r H) d e) (k : List Int) : match atM d k, atA e (k.map Sum.inl) with
    | some x, some p => r H x p.2
    | none, none => True
    | _, _ => False := by
  induction h with
  | nil => exact True.intro
  | @cons p q ps qs h t ih =>
    obtain ⟨e1, e2⟩ := h
    unfold atM atA at ih ⊢
    rw [List.find?_cons, List.find?_cons, e1]
    by_cases z : p.1 = k
    · rw [decide_eq_true z, decide_eq_true (by rw [z])]; exact e2
    · rw [decide_eq_false z, decide_eq_false fun w => z (inl_inj w)]; exact ih
theorem ints_kV : ∀ {k : List Int} {vs : List V}, Paired (rI H) k vs → vs = (k.map Sum.inl : List L2.Key).map kV
  | _, _, .nil => rfl
  | _, _, .cons h t => by rw [ints_kV t, show _ = V.int _ from h]; rfl
theorem kT (h : rT K rI H k v) : ∃ b, v = .ref b ∧ KeyT K H b (k.map Sum.inl) := by
  obtain ⟨b, e, vs, h1, h2⟩ := h
  exact ⟨b, e, ⟨k, rfl⟩, by rw [← ints_kV h2]; exact h1⟩
theorem KeyT.im {q : List L2.Key} (g : Im H H') (h : KeyT K H b q) : KeyT K H' b q := ⟨h.1, g.tup h.2⟩
theorem KeysT.im {e : List Ent} (g : Im H H') (h : KeysT K H e) : KeysT K H' e := fun p hp => (h p hp).im g
theorem EntM.im [Imm r] {e : List Ent} (g : Im H H') (h : Paired (EntM r H) d e) : Paired (EntM r H') d e := Paired.mapP h fun _ _ q => ⟨q.1, Imm.im g q.2⟩
instance [Imm r] : Imm (rDA K r) := ⟨fun g ⟨a, o, e, h0, h1, h2, h3⟩ => ⟨a, o, e, h0, g _ _ h1 rfl, h2.im g, EntM.im g h3⟩⟩
/-- a heap whose one thing is a code object, over and over -/
theorem kd_DA {e : List Ent} : kd (DA a e) = 6 := by
  unfold kd DA
  refine if_neg ?_
  rintro ⟨c, q, z⟩
  unfold LamX.CodeO at z
  injection z with z
  let o : Obj := { cls := .none, data := .fields #[.none, .str q default] }
  let h : Heap := { objs := Array.replicate (c + 1) o }
  have at_ : ∀ b u, h.get? b = some u → u = o := fun b u hu => by
    have hu : (Array.replicate (c + 1) o)[b]? = some u := ((Heap.get?_eq_some _ _ _).mp hu).1
    rw [Array.getElem?_replicate] at hu
    split at hu
    · exact (Option.some.inj hu).symm
    · cases hu
  have y : daAt a e h := by
    rw [z]
    refine ⟨o, #[.none, .str q default], default, ?_, rfl, rfl⟩
    refine (Heap.get?_eq_some _ _ _).mpr ⟨?_, rfl⟩
    show (Array.replicate (c + 1) o)[c]? = some o
    rw [Array.getElem?_replicate, if_pos (Nat.lt_succ_self c)]
  obtain ⟨_, _, u, es, ep, _, hu, _, hd, _⟩ := y
  rw [at_ _ _ hu] at hd
  cases hd
theorem LsD.gA [Imm r] (g : Gr A H H') (n : a ∉ A) (h : LsD K r H a d) : LsD K r H' a d :=
  let ⟨e, h1, h2, h3⟩ := h
  ⟨e, g.to h1 (fun m => absurd m n) (by rw [kd_DA]; decide), h2.im g.im, EntM.im g.im h3⟩
theorem LsD.g0 [Imm r] (g : Gr [] H H') (h : LsD K r H a d) : LsD K r H' a d := h.gA g (by simp)
theorem LsD.fz [Imm r] (g : Fz b H H') (n : a ≠ b) (h : LsD K r H a d) : LsD K r H' a d := let ⟨e, h1, h2, h3⟩ := h; ⟨e, g.ne _ _ n h1, h2.im g.im, EntM.im g.im h3⟩
theorem LsD.new : LsD K r (upd H a (DA a [])) a [] := ⟨[], upd_same, nofun, .nil⟩
theorem gr_DA {e e' : List Ent} (h : H a = some (DA a e)) : Gr [a] H (upd H a (DA a e')) := Gr.setK h (by rw [kd_DA]; decide) (by rw [kd_DA]; decide) (kd_DA.trans kd_DA.symm)
theorem put_rel [Imm r] {e : List Ent} (h : Paired (EntM r H) d e) (k : List Int) (b : Addr) (hx : r H x z) : Paired (EntM r H) (putM d k x) (putA e (k.map Sum.inl) b z) := by
  have q := atM_rel h k
  unfold putM putA
  cases e1 : atM d k with
  | none =>
    cases e2 : atA e (k.map Sum.inl) with
    | none => exact Paired.snoc h ⟨rfl, hx⟩
    | some p => rw [e1, e2] at q; exact q.elim
  | some y =>
    cases e2 : atA e (k.map Sum.inl) with
    | none => rw [e1, e2] at q; exact q.elim
    | some p =>
      clear q e1 e2
      show Paired _ (d.map _) (e.map _)
      induction h with
      | nil => exact .nil
      | @cons p q ps qs h t ih =>
        rw [List.map_cons, List.map_cons]
        refine .cons ?_ ih
        by_cases w : p.1 = k
        · rw [if_pos w, if_pos (by rw [h.1, w])]; exact ⟨h.1, hx⟩
        · rw [if_neg w, if_neg fun c => w (inl_inj (h.1.symm.trans c))]; exact h
theorem put_keys {e : List Ent} {q : List L2.Key} (h : KeysT K H e) (hb : KeyT K H b q) : KeysT K H (putA e q b z) := by
  unfold putA
  split
  · intro p hp
    obtain ⟨y, hy, e⟩ := List.mem_map.mp hp
    subst e
    have := h y hy
    split <;> exact this
  · intro p hp
    rcases List.mem_append.mp hp with w | w
    · exact h p w
    · rw [List.mem_singleton.mp w]; exact hb
/-- the end of a turn -/
theorem dput_D [Imm r] {Nx : Hp → Prop} (h : LsD K r H D d) (hk : rT K rI H k y) (hx : r H x z) (l : lenLt d) (q : ∀ H', Gr [D] H H' → LsD K r H' D (putM d k x) → Nx H') : dputA K D Nx y z H := by
  obtain ⟨e, h1, h2, h3⟩ := h
  obtain ⟨b, ey, kb⟩ := kT hk
  have g := (gr_DA (e' := putA e (k.map Sum.inl) b z) h1)
  exact ⟨b, e, _, ey, kb, h1, h2, by rw [← Paired.length h3]; exact l, q _ g ⟨_, upd_same, (put_keys h2 kb).im g.im, EntM.im g.im (put_rel h3 k b hx)⟩⟩
/-- d[k] -/
theorem dget_D {E : Er → Prop} {P : β → Prop} {Q : VK} (h : rDA K r H d v) (hk : rT K rI H k y) (hm : wp (getM d k) P E) (q : ∀ (x : β) (w : V), r H x w → P x → Q w H) : dgetA K Q v y H := by
  obtain ⟨a, o, e, ev, h1, h2, h3⟩ := h
  obtain ⟨b, ey, kb⟩ := kT hk
  have z := atM_rel h3 k
  unfold getM at hm
  cases e1 : atM d k with
  | none => rw [e1] at hm; exact hm.elim
  | some x =>
    cases e2 : atA e (k.map Sum.inl) with
    | none => rw [e1, e2] at z; exact z.elim
    | some p =>
      rw [e1, e2] at z
      rw [e1] at hm
      exact ⟨a, b, e, _, p, ev, ey, .inr ⟨o, h1⟩, h2, kb, e2, q x _ z hm⟩
/-- from now on it stands still -/
theorem fz_D [Imm r] {Q : VK} (h : LsD K r H a d) (q : ∀ H2, Fz a H H2 → rDA K r H2 d (.ref a) → Q (.ref a) H2) : frzA Q (.ref a) H := by
  obtain ⟨e, h1, h2, h3⟩ := h
  have g : ∀ od, Im H (upd H a (.frz od (DA a e))) := fun od => Im.frz h1 (by rw [kd_DA]; decide)
  exact ⟨a, _, rfl, h1, trivial, fun od => q _ ⟨g od, fun b o n hb => by rw [upd_ne n]; exact hb, by rw [upd_same]; intro z; cases z⟩ ⟨a, od, e, rfl, upd_same, h2.im (g od), EntM.im (g od) h3⟩⟩
end
/-! ### dicts with texts as keys -/
section
variable {β : Type} {r : Rp β} {K : PySem.W.Frag} {H H' : Hp} {a b D p : Addr} {A : List Addr} {d : List (Str × β)} {k : Str} {x : β} {z v : V}
def EntS (r : Rp β) (H : Hp) (p : Str × β) (q : L2.Key × V) : Prop := q.1 = Sum.inr p.1 ∧ r H p.2 q.2
def LsS (r : Rp β) (H : Hp) (a : Addr) (d : List (Str × β)) : Prop := ∃ e, H a = some (.dK e) ∧ Paired (EntS r H) d e
def rDS (r : Rp β) : Rp (List (Str × β)) := fun H d v => ∃ a o e, v = .ref a ∧ H a = some (.frz o (.dK e)) ∧ Paired (EntS r H) d e
theorem atS_rel {e : List (L2.Key × V)} (h : Paired (EntS r H) d e) (k : Str) : match atM d k, valV e (Sum.inr k) with
    | some x, some p => r H x p
    | none, none => True
    | _, _ => False := by
  induction h with
  | nil => exact True.intro
  | @cons p q ps qs h t ih =>
    obtain ⟨e1, e2⟩ := h
    unfold atM valV at ih ⊢
    rw [List.find?_cons, List.find?_cons, e1]
    by_cases z : p.1 = k
    · rw [decide_eq_true z, decide_eq_true (by rw [z])]; exact e2
    · rw [decide_eq_false z, decide_eq_false fun w => z (by injection w)]; exact ih
theorem EntS.im [Imm r] {e : List (L2.Key × V)} (g : Im H H') (h : Paired (EntS r H) d e) : Paired (EntS r H') d e := Paired.mapP h fun _ _ q => ⟨q.1, Imm.im g q.2⟩
instance [Imm r] : Imm (rDS r) := ⟨fun g ⟨a, o, e, h0, h1, h3⟩ => ⟨a, o, e, h0, g _ _ h1 rfl, EntS.im g h3⟩⟩
theorem LsS.gA [Imm r] (g : Gr A H H') (n : a ∉ A) (h : LsS r H a d) : LsS r H' a d := let ⟨e, h1, h3⟩ := h; ⟨e, g.to h1 (fun m => absurd m n) nofun, EntS.im g.im h3⟩
theorem LsS.g0 [Imm r] (g : Gr [] H H') (h : LsS r H a d) : LsS r H' a d := h.gA g (by simp)
theorem LsS.fz [Imm r] (g : Fz b H H') (n : a ≠ b) (h : LsS r H a d) : LsS r H' a d := let ⟨e, h1, h3⟩ := h; ⟨e, g.ne _ _ n h1, EntS.im g.im h3⟩
theorem LsS.new : LsS r (upd H a (.dK [])) a [] := ⟨[], upd_same, .nil⟩
theorem gr_dK {e e' : List (L2.Key × V)} (h : H a = some (.dK e)) : Gr [a] H (upd H a (.dK e')) := Gr.setK h (by show 2 ≠ 0; decide) (by show 2 ≠ 9; decide) rfl
theorem putS_rel [Imm r] {e : List (L2.Key × V)} (h : Paired (EntS r H) d e) (k : Str) (hx : r H x z) : Paired (EntS r H) (putM d k x) (putK e (Sum.inr k) z) := by
  have q := atS_rel h k
  unfold putM putK
  rw [valV_any]
  cases e1 : atM d k with
  | none =>
    cases e2 : valV e (Sum.inr k) with
    | none => exact Paired.snoc h ⟨rfl, hx⟩
    | some p => rw [e1, e2] at q; exact q.elim
  | some y =>
    cases e2 : valV e (Sum.inr k) with
    | none => rw [e1, e2] at q; exact q.elim
    | some p =>
      clear q e1 e2
      show Paired _ (d.map _) (e.map _)
      induction h with
      | nil => exact .nil
      | @cons p q ps qs h t ih =>
        rw [List.map_cons, List.map_cons]
        refine .cons ?_ ih
        by_cases w : p.1 = k
        · rw [if_pos w, if_pos (by rw [h.1, w])]; exact ⟨h.1, hx⟩
        · rw [if_neg w, if_neg fun c => w (by rw [h.1] at c; injection c)]; exact h
def dputS (D : Addr) (Nx : Hp → Prop) (y z : V) (H : Hp) : Prop := ∃ e k, y = kV k ∧ H D = some (.dK e) ∧ e.length < sizeLine ∧ Nx (upd H D (.dK (putK e k z)))
theorem dput_S [Imm r] {Nx : Hp → Prop} (h : LsS r H D d) (hx : r H x z) (l : lenLt d) (q : ∀ H', Gr [D] H H' → LsS r H' D (putM d k x) → Nx H') : dputS D Nx (.str k) z H := by
  obtain ⟨e, h1, h3⟩ := h
  have g := (gr_dK (e' := putK e (Sum.inr k) z) h1)
  exact ⟨e, Sum.inr k, rfl, h1, by rw [← Paired.length h3]; exact l, q _ g ⟨_, upd_same, EntS.im g.im (putS_rel h3 k hx)⟩⟩
theorem fz_S [Imm r] {Q : VK} (h : LsS r H a d) (q : ∀ H2, Fz a H H2 → rDS r H2 d (.ref a) → Q (.ref a) H2) : frzA Q (.ref a) H := by
  obtain ⟨e, h1, h3⟩ := h
  have g : ∀ od, Im H (upd H a (.frz od (.dK e))) := fun od => Im.frz h1 (by show 2 ≠ 0; decide)
  exact ⟨a, _, rfl, h1, trivial, fun od => q _ ⟨g od, fun b o n hb => by rw [upd_ne n]; exact hb, by rw [upd_same]; intro z; cases z⟩ ⟨a, od, e, rfl, upd_same, EntS.im (g od) h3⟩⟩
variable {td ty : TE} {σ : L2.St} {Q : VK}
end
/-! ### the walk of a comprehension -/
section
variable {α σt : Type} {J : It} {xs : List α} {G : Hp → Prop} {r : Rp α} {H0 H1 : Hp} {K : PySem.W.Frag} {g : TG} {tk tv : TE} {own : List Nat} {σ : L2.St} {D : Addr} {Qd : Hp → Prop} {E : Er → Prop} {s0 : σt}
theorem dc_R {o0 : HO} {put : Addr → (Hp → Prop) → V → V → Hp → Prop} (w : Wk J xs G r H0) {f : σt → α → R σt} {Z : σt → Prop} (rel : σt → Hp → Prop)
    (hm : wp (foldR f s0 xs) Z E) (h0 : rel s0 (upd H1 D o0)) (hG : ∀ s H, rel s H → G H ∧ ∃ A, Gr A H0 H)
    (hs : ∀ (x : α) (v : V) (s : σt) (H H' : Hp) (Nx : Hp → Prop), rel s H → Gr [] H H' → r H' x v → wp (f s x) (fun s' => ∀ H', rel s' H' → Nx H') E →
      g v (wipe σ own) H' fun σ2 H2 => wipe σ2 own = wipe σ own ∧ tk σ2 H2 fun y H4 => tv σ2 H4 fun z H5 => put D Nx y z H5)
    (hd : ∀ s H, rel s H → Z s → Qd H) :
    ∃ W : Nat → Nat → Hp → Prop, (∃ m, W 0 m (upd H1 D o0)) ∧ ∀ i m H, W i m H →
      (J.stop i H ∧ Qd H) ∨ (J.go i H ∧ ∃ Nx : Hp → Prop, (∀ H', Nx H' → ∃ m', m' < m ∧ W (i + 1) m' H') ∧ ∀ x H', J.yld i H x H' →
        g x (wipe σ own) H' fun σ2 H2 => wipe σ2 own = wipe σ own ∧ tk σ2 H2 fun y H4 => tv σ2 H4 fun z H5 => put D Nx y z H5) := by
  obtain ⟨Y, wa, hy⟩ := w
  refine ⟨fun i m H => m = xs.length - i ∧ i ≤ xs.length ∧ ∃ s, rel s H ∧ wp (foldR f s (xs.drop i)) Z E, ⟨xs.length, by simp, Nat.zero_le _, s0, h0, hm⟩, ?_⟩
  rintro i m H ⟨rfl, hi, s, hr, hw⟩
  obtain ⟨q, A, ga⟩ := hG s H hr
  by_cases hlt : i < xs.length
  · refine .inr ⟨wa.goes i H hlt q, fun H' => i + 1 ≤ xs.length ∧ ∃ s, rel s H' ∧ wp (foldR f s (xs.drop (i + 1))) Z E, fun H' ⟨hl, p⟩ => ⟨xs.length - (i + 1), by omega, rfl, hl, p⟩, fun v H' y => ?_⟩
    obtain ⟨x, hx, g', hv⟩ := hy A i H v H' ga hlt (wa.yields i H v H' hlt q y)
    have hw := foldR_step hlt hw
    have e : xs[i] = x := by rw [List.getElem?_eq_getElem hlt] at hx; exact Option.some.inj hx
    rw [e] at hw
    exact hs x v s H H' _ hr g' hv (wp_imp hw (fun s' hs' H' r' => ⟨hlt, s', r', hs'⟩) fun _ e => e)
  · have e : i = xs.length := by omega
    subst e
    exact .inl ⟨wa.stops H q, hd s H hr (foldR_end (Nat.le_refl _) hw)⟩
/-- the form that a printed text uses -/
theorem rd_dcD {wi : TI} {H : Hp} {Q : VK} {vs : List Nat} (h : wi σ H fun J H1 => ∀ D, H1 D = none → ∃ W : Nat → Nat → Hp → Prop, (∃ m, W 0 m (upd H1 D (DA D []))) ∧ ∀ i m H, W i m H →
    (J.stop i H ∧ Q (.ref D) H) ∨ (J.go i H ∧ ∃ Nx : Hp → Prop, (∀ H', Nx H' → ∃ m', m' < m ∧ W (i + 1) m' H') ∧ ∀ x H', J.yld i H x H' →
      g x (wipe σ vs) H' fun σ2 H2 => wipe σ2 vs = wipe σ vs ∧ tk σ2 H2 fun y H4 => tv σ2 H4 fun z H5 => dputA K D Nx y z H5)) : tDcA K wi g tk tv vs σ H Q := h
theorem rd_dcS {wi : TI} {H : Hp} {Q : VK} {vs : List Nat} (h : wi σ H fun J H1 => ∀ D, H1 D = none → ∃ W : Nat → Nat → Hp → Prop, (∃ m, W 0 m (upd H1 D (.dK []))) ∧ ∀ i m H, W i m H →
    (J.stop i H ∧ Q (.ref D) H) ∨ (J.go i H ∧ ∃ Nx : Hp → Prop, (∀ H', Nx H' → ∃ m', m' < m ∧ W (i + 1) m' H') ∧ ∀ x H', J.yld i H x H' →
      g x (wipe σ vs) H' fun σ2 H2 => wipe σ2 vs = wipe σ vs ∧ tk σ2 H2 fun y H4 => tv σ2 H4 fun z H5 => dputS D Nx y z H5)) : tDc wi g tYes tk tv vs σ H Q := h
theorem rd_dgD {td ty : TE} {H : Hp} {Q : VK} (h : td σ H fun x H1 => ty σ H1 (dgetA K Q x)) : tDGetA K td ty σ H Q := h
theorem u1 {n : Nat} (h : n + 64 < cLine) : n + 1 < cLine := by omega
theorem ins_neD {β : Type} {r : Rp β} {H : Hp} {a b C dx : Addr} {fs : List (Str × V)} {d : List (List Int × β)} (h : H a = some (.ins C dx fs)) (l : LsD K r H b d) : a ≠ b := fun e => by
  obtain ⟨_, h1, _⟩ := l
  rw [← e, h] at h1
  cases h1
theorem ins_neS {β : Type} {r : Rp β} {H : Hp} {a b C dx : Addr} {fs : List (Str × V)} {d : List (Str × β)} (h : H a = some (.ins C dx fs)) (l : LsS r H b d) : a ≠ b := fun e => by
  obtain ⟨_, h1, _⟩ := l
  rw [← e, h] at h1
  cases h1
theorem pe_fldK {X : Cx} {K : PySem.W.Frag} {e : Expr} {f : Str} {pos : Pos} {ta : TE} (eK : X.K = K) (he : PE X e ta) (hb : attributeBase e f X.env (eval e X.env) = eval e X.env) : PE X (.Attribute e f pos) (tFld K ta f) := eK ▸ pe_fld he hb
end
end Mir
set_option Elab.async false
set_option linter.all false
set_option maxRecDepth 100000
namespace Mir
open PySem PySem.Spec PyProof.Rows L2
variable [Nm]
/-! ### tests whose second part changes a list -/
section
variable {t u : TT} {σ : L2.St} {H : Hp} {E : Er → Prop} {m : R Bool} {n : R (Bool × List Int)} {p : Addr} {l : List Int}
end
/-! ### what is not None -/
/-! ### rows that are tuples or lists that stand still -/
section
variable {α : Type} {r : Rp α} {K : PySem.W.Frag} {H : Hp} {a : Addr} {v : V} {xs : List α} {xss : List (List α)} {E : Er → Prop} {Q : VK}
def rQ (K : PySem.W.Frag) (r : Rp α) : Rp (List α) := fun H xs v => rT K r H xs v ∨ rZ r H xs v
instance [Imm r] : Imm (rQ K r) := ⟨fun g h => h.elim (fun h => .inl (Imm.im g h)) fun h => .inr (Imm.im g h)⟩
end
/-! ### min of two, int of a truth value -/
section
variable {H : Hp} {Q : VK} {i j : Int} {b : Bool}
end
end Mir
set_option Elab.async false
set_option linter.all false
set_option maxRecDepth 100000
set_option maxHeartbeats 2000000
namespace GenS
open PySem PySem.Spec PyProof.Rows L2 GenW
open Sem (wp)

/-! ### who sleeps through a run that doesn't wake him is there behind it -/
/-- a sleeper that no run can wake -/
def numb : GenState → GenState
  | .suspended _ l c p fs cl => .suspended (fun _ => .unsupported "") l c p fs cl
  | x => x
def sleeps : GenState → Bool
  | .suspended .. => true
  | _ => false
/-- the sleepers of T put in their places -/
def put (T : Nat → Option GenState) (s : Shared) : Shared := { s with gens := s.gens.mapIdx fun i x => (T i).getD x }
structure Numbed (T : Nat → Option GenState) (s : Shared) : Prop where
  old : ∀ i st, T i = some st → s.gens[i]? = some (numb st) ∧ sleeps st = true
  new : ∀ i k l c p fs cl, T i = none → s.gens[i]? = some (.suspended k l c p fs cl) → splitAtGen fs = none
section
variable {T : Nat → Option GenState} {s s' : Shared} {M : Model} {Γ : PySem.Ctx}
theorem Numbed.set {g : Nat} {x : GenState} (N : Numbed T s) (f : T g = none) (hx : ∀ k l c p fs cl, x = .suspended k l c p fs cl → splitAtGen fs = none) : Numbed T (s.setGen g x) where
  old := fun i st e => by
    have hi : g ≠ i := fun z => by rw [z, e] at f; cases f
    refine ⟨?_, (N.old i st e).2⟩
    show (s.gens.setIfInBounds g x)[i]? = _
    rw [Array.getElem?_setIfInBounds, if_neg hi]
    exact (N.old i st e).1
  new := fun i k l c p fs cl e h => by
    have h : (s.gens.setIfInBounds g x)[i]? = some (.suspended k l c p fs cl) := h
    rw [Array.getElem?_setIfInBounds] at h
    by_cases z : g = i
    · rw [if_pos z] at h
      split at h
      · exact hx _ _ _ _ _ _ (Option.some.inj h)
      · cases h
    · rw [if_neg z] at h
      exact N.new i k l c p fs cl e h
theorem Numbed.push {c : Code} (N : Numbed T s) : Numbed T { s with gens := s.gens.push (.fresh c) } ∧ T s.gens.size = none := by
  have f : T s.gens.size = none := by
    cases e : T s.gens.size with
    | none => rfl
    | some x =>
      have := (N.old _ x e).1
      rw [Array.getElem?_eq_none (Nat.le_refl _)] at this
      cases this
  refine ⟨⟨fun i st e => ?_, fun i k l cc p fs cl e h => ?_⟩, f⟩
  · obtain ⟨h1, h2⟩ := N.old i st e
    have hi : i < s.gens.size := by
      rcases Nat.lt_or_ge i s.gens.size with z | z
      · exact z
      · rw [Array.getElem?_eq_none z] at h1; cases h1
    refine ⟨?_, h2⟩
    show (s.gens.push _)[i]? = _
    rw [Array.getElem?_push, if_neg (Nat.ne_of_lt hi)]
    exact h1
  · have h : (s.gens.push (.fresh c))[i]? = some (.suspended k l cc p fs cl) := h
    rw [Array.getElem?_push] at h
    split at h
    · cases h
    · exact N.new i k l cc p fs cl e h
theorem Numbed.heap {h : Heap} (N : Numbed T s) : Numbed T { s with heap := h } := ⟨N.old, N.new⟩
end
end GenS
set_option Elab.async false
set_option linter.all false
set_option maxRecDepth 100000
set_option maxHeartbeats 2000000
namespace GenS
open PySem PySem.Spec PyProof.Rows L2 GenW

/-! ### a piece of a run, by its end -/
def Go (M : Model) (A : Around) (Φ : End → Shared → Prop) (c : Code) (t : Sem PySem.Fin) (fs : List Frame) (s : Shared) : Prop :=
  ∀ (Γ : PySem.Ctx) (p : Pos), Γ.code = c → Γ.Woken A → ∃ e s', Runs M Γ p t fs s e s' ∧ Φ e s'
section
variable {M : Model} {A : Around} {Φ Ψ : End → Shared → Prop} {c : Code} {fs : List Frame} {s : Shared}
theorem Go.imp {t : Sem PySem.Fin} (h : Go M A Φ c t fs s) (q : ∀ e s', Φ e s' → Ψ e s') : Go M A Ψ c t fs s := fun Γ p hc hΓ =>
  let ⟨e, s', r, z⟩ := h Γ p hc hΓ
  ⟨e, s', r, q e s' z⟩
end

/-! ### the turns of «yield from» a tuple -/
/-- but for what stands at it, the heap is as it was -/
def Kept (it : Addr) (s s' : Shared) : Prop := ∃ h' tk, s' = { s with heap := h', toks := tk } ∧ ∀ b o, b ≠ it → s.heap.get? b = some o → h'.get? b = some o
theorem Kept.trans {it : Addr} {s s1 s2 : Shared} (a : Kept it s s1) (b : Kept it s1 s2) : Kept it s s2 := by
  obtain ⟨h1, t1, rfl, k1⟩ := a
  obtain ⟨h2, t2, rfl, k2⟩ := b
  exact ⟨h2, t2, rfl, fun b o n e => k2 b o n (k1 b o n e)⟩
theorem Kept.refl {it : Addr} {s : Shared} : Kept it s s := ⟨s.heap, s.toks, rfl, fun _ _ _ e => e⟩
/-- how a turn ends of a generator that hands on the tuple at t of n items, r of them left -/
def TailE (M : Model) (A : Around) (it t : Addr) (n : Nat) : Nat → Array Value → Shared → End → Shared → Prop
  | 0 => fun _ s e s' => Kept it s s' ∧ e = .ret (.ok (.ret .none))
  | r + 1 => fun vs s e s' => Kept it s s' ∧ IsTupIter s'.heap it t (n - r) ∧ ∃ v g l k c p fs, e = .susp v g l k c p fs ∧ e.quiet = true ∧ vs[n - (r + 1)]? = some v ∧
    ∀ (s2 : Shared) (ws : Array Value), ws.size = n → IsTupIter s2.heap it t (n - r) → IsTup s2.heap t ws → Go M A (TailE M A it t n r ws s2) c (k (.send .none)) fs s2
theorem TailE.after {M : Model} {A : Around} {it t : Addr} {vs : Array Value} {n r : Nat} {s s1 : Shared} {e : End} {s' : Shared} (a : Kept it s s1) (h : TailE M A it t n r vs s1 e s') : TailE M A it t n r vs s e s' := by
  cases r with
  | zero => exact ⟨a.trans h.1, h.2⟩
  | succ r => exact ⟨a.trans h.1, h.2⟩
section
variable {P : Program} {w : World} {A : Around}
end
end GenS
set_option Elab.async false
set_option linter.all false
set_option maxRecDepth 100000
set_option maxHeartbeats 2000000
namespace GenS
open PySem PySem.Spec PyProof.Rows L2 GenW
section
variable {P : Program} {w : World} {A : Around} {Φ : End → Shared → Prop} {s : Shared} {env : Env}
end
/-! ### next -/
section
variable {P : Program} {w : World} {A : Around} {E : Value → Shared → Prop} {s : Shared}
end
end GenS
set_option Elab.async false
set_option linter.all false
set_option maxRecDepth 100000
set_option maxHeartbeats 2000000
namespace GenS
open PySem PySem.Spec PyProof.Rows L2 GenW

/-! ### a generator method that hands on a tuple of its object -/
def Awake0 (ob : Addr) (fld : Str) (a : Addr) (g : Nat) (s : Shared) : Prop :=
  s.heap.IsGen a g ∧ ∃ (env : Env) (x : Str) (p1 p2 yp pos : Pos) (m : Str → Option Value), s.gens[g]? = some (.fresh (.func [.Expr (.YieldFrom (.Attribute (.Name x p1) fld p2) yp) pos] env)) ∧
    env.scope.kind = .function ∧ env.kindOf x = some .local ∧ s.heap.Ns env.locals m ∧ m x = some (.ref ob) ∧ interactive env = false ∧ (x == ("__debug__" : Str)) = false
theorem Awake0.keep {ob a : Addr} {fld : Str} {g : Nat} {s s' : Shared} (h : Awake0 ob fld a g s) (k : ∀ b o, s.heap.get? b = some o → s'.heap.get? b = some o) (e : s'.gens[g]? = s.gens[g]?) : Awake0 ob fld a g s' := by
  obtain ⟨h1, env, x, p1, p2, yp, pos, m, h2, h3, h4, h5, r⟩ := h
  exact ⟨h1.keeps k, env, x, p1, p2, yp, pos, m, e.trans h2, h3, h4, h5.keeps k, r⟩
def Asleep (P : Program) (w : World) (A : Around) (t : Addr) (n : Nat) (a : Addr) (g : Nat) (it : Addr) (i : Nat) (s : Shared) : Prop :=
  s.heap.IsGen a g ∧ IsTupIter s.heap it t i ∧ i ≤ n ∧ ∃ k l c p fs, s.gens[g]? = some (.suspended k l c p fs false) ∧
    ∀ (s2 : Shared) (ws : Array Value), ws.size = n → IsTupIter s2.heap it t i → IsTup s2.heap t ws → Go (model P w) A.in1 (TailE (model P w) A.in1 it t n (n - i) ws s2) c (k (.send .none)) fs s2
theorem Asleep.keep {P : Program} {w : World} {A : Around} {t a it : Addr} {n g i : Nat} {s s' : Shared} (h : Asleep P w A t n a g it i s) (k1 : ∀ o, s.heap.get? a = some o → s'.heap.get? a = some o)
    (k2 : ∀ o, s.heap.get? it = some o → s'.heap.get? it = some o) (e : s'.gens[g]? = s.gens[g]?) : Asleep P w A t n a g it i s' := by
  obtain ⟨⟨o, nm, qn, h1, r1⟩, ⟨o2, h2, r2⟩, h3, k, l, c, p, fs, h4, r⟩ := h
  exact ⟨⟨o, nm, qn, k1 o h1, r1⟩, ⟨o2, k2 o2 h2, r2⟩, h3, k, l, c, p, fs, e.trans h4, r⟩
theorem Asleep.sleeps {P : Program} {w : World} {A : Around} {t a it : Addr} {n g i : Nat} {s : Shared} (h : Asleep P w A t n a g it i s) : ∃ st, s.gens[g]? = some st ∧ sleeps st = true := by
  obtain ⟨_, _, _, k, l, c, p, fs, h4, _⟩ := h
  exact ⟨_, h4, rfl⟩
section
variable {X : Cx} {pins : List (Addr × Obj)} {σ : L2.St} {H : Hp} {s : Shared} {E : Value → Shared → Prop} {Q : Option Value → Shared → Prop} {ob C dx a t : Addr} {fld : Str} {fs : List (Str × V)} {xs : List V} {g : Nat}
end
end GenS
set_option Elab.async false
set_option linter.all false
set_option maxRecDepth 100000
set_option maxHeartbeats 2000000
namespace GenS
open PySem PySem.Spec PyProof.Rows L2 GenW

/-- the items xs of the tuple at t, one a turn -/
def Itg (K : PySem.W.Frag) (t : Addr) (xs : List V) : It := ⟨fun i H => SqT K H t xs ∧ i < xs.length, fun i H x H' => H' = H ∧ xs[i]? = some x, fun i H => SqT K H t xs ∧ xs.length ≤ i⟩
/-- a generator has come that was not woken yet -/
structure NewGen (X : Cx) (pins : List (Addr × Obj)) (σ : L2.St) (R : It → Hp → Prop) (a : Addr) (s : Shared) : Prop where
  all : ∃ (g : Nat) (ob C dx t : Addr) (fld : Str) (fs : List (Str × V)) (xs : List V) (H : Hp), Inv X pins σ H s ∧ Awake0 ob fld a g s ∧ FpOk X pins H a ∧ H ob = some (.ins C dx fs) ∧ Cls X.K C ∧ NoAttr X.K C fld ∧
    fs.lookup fld = some (.ref t) ∧ SqT X.K H t xs ∧ R (Itg X.K t xs) H
structure PIG (X : Cx) (iter : Expr) (wi : TI) : Prop where
  run : ∀ (pins : List (Addr × Obj)) (s : Shared) (σ : L2.St) (H : Hp) (R : It → Hp → Prop), Inv X pins σ H s → wi σ H R →
    wpAny (model X.prog X.w) X.A (eval iter X.env) (fun v s1 => wpAny (model X.prog X.w) X.A (pyIter v) (fun u s2 => ∃ a, u = .ref a ∧ NewGen X pins σ R a s2) X.xe s1) X.xe s
section
variable {X : Cx}
end
end GenS
set_option Elab.async false
set_option linter.all false
set_option maxRecDepth 100000
set_option maxHeartbeats 2000000
namespace GenS
open PySem PySem.Spec PyProof.Rows L2 GenW

/-- the def of such a method -/
structure GDef (K : PySem.W.Frag) (C : Addr) (m fld : Str) : Prop where
  all : ∃ (qual x : Str) (st : Stmt) (f : Addr) (fd : FuncData) (p1 p2 yp pos : Pos), L2.Fun K m qual st f fd ∧ Meth K C m f ∧ Binds K fd [x] [] ∧ defBody st = [.Expr (.YieldFrom (.Attribute (.Name x p1) fld p2) yp) pos] ∧
    (defScope st).kind = .function ∧ (defScope st).isCoroutine = false ∧ (defScope st).isGenerator = true ∧ (defScope st).names.lookup x = some .local ∧ (x == ("__debug__" : Str)) = false ∧ NoAttr K C fld
section
variable {X : Cx} {o : Expr} {ta : TE} {C : Addr} {m fld : Str} {apos pos' : Pos}
end
section
variable {X : Cx} {k : Nat} {elt tg iter : Expr} {ifs : List Expr} {scope : Scope} {own : List (Str × Nat)} {wi : TI} {g : TG} {tt : TT} {te : TE}
/-- what a comprehension's block is asked of its target, its tests, its element -/
structure LcBody (X : Cx) (elt tg : Expr) (ifs : List Expr) (scope : Scope) (g : TG) (tt : TT) (te : TE) : Prop where
  tg : ∀ s H C cl, PG (X.blk s H scope (compEnvC scope cl C X.env) []) tg g
  ts : ∀ s H C cl, PTs (X.blk s H scope (compEnvC scope cl C X.env) []) ifs tt
  el : ∀ s H C cl, PE (X.blk s H scope (compEnvC scope cl C X.env) []) elt te
end
end GenS
set_option Elab.async false
set_option linter.all false
set_option maxRecDepth 100000
namespace Mir
open PySem PySem.Spec PyProof.Rows L2
variable [Nm]
/-! ### a given list of ints beside lists that change: another one, or a constant -/
abbrev Sep (K : PySem.W.Frag) (a : Addr) (A : List Addr) (ns : List Int) : Prop := a ∉ A ∨ ∀ H', Lq K rI H' a ns
section
variable {K : PySem.W.Frag} {H H' : Hp} {a p : Addr} {A : List Addr} {ns : List Int}
theorem sep_new (h : Lq K rI H a ns) (n : H p = none) : Sep K a [p] ns := by
  obtain ⟨vs, h1, h2⟩ := h
  rcases h1 with (z | ⟨o, z⟩) | z
  · exact .inl fun e => by rw [List.mem_singleton.mp e, n] at z; cases z
  · exact .inl fun e => by rw [List.mem_singleton.mp e, n] at z; cases z
  · exact .inr fun _ => ⟨vs, .inr z, h2⟩
end
end Mir
namespace Mir
open PySem PySem.Spec PyProof.Rows L2
variable [Nm]
/-! ### what a generator method hands on -/
end Mir
namespace Mir
open PySem PySem.Spec PyProof.Rows L2
variable [Nm]
section
variable {α : Type} [DecidableEq α] {K : PySem.W.Frag} {r : Rp α}
end
end Mir
namespace Mir
open PySem PySem.Spec PyProof.Rows L2
variable [Nm]
/-- its data are never None -/
class NoN {α : Type} (r : Rp α) : Prop where
  nn : ∀ {H : Hp} {x : α} {v : V}, r H x v → v ≠ .non
section
variable {α β γ : Type} {K : PySem.W.Frag} {r : Rp α} {s : Rp β} {t : Rp γ}
instance : NoN (rT K r) := ⟨fun ⟨a, e, _⟩ z => by rw [e] at z; cases z⟩
instance : NoN (rP K r s) := ⟨fun ⟨a, x, y, e, _⟩ z => by rw [e] at z; cases z⟩
instance : NoN (rP3 K r s t) := ⟨fun ⟨a, x, y, w, e, _⟩ z => by rw [e] at z; cases z⟩
end
end Mir
namespace Mir
open PySem PySem.Spec PyProof.Rows L2
variable [Nm]
section
variable {K : PySem.W.Frag} {H : Hp} {p : Addr} {ns : List Int} {i : Int} {v : V} {Q : VK}
end
end Mir
set_option Elab.async false
set_option linter.all false
set_option maxRecDepth 100000
namespace Mir
open PySem PySem.Spec PyProof.Rows L2
variable [Nm]
/-! ### what is called with fewer arguments than it has -/
section
variable {X : Cx} {CX : CXT} {k : Nat} {f C : Addr} {fd : FuncData} {ps : List Str} {sp : Sp} {dvs : List V} {ds : List Value} {E : L2.St → XK} {x m : Str} {p pos apos : Pos} {e o : Expr} {es : List Expr} {ta : TE} {t : TA}
end
/-! ### x in l, items of any depth -/
section
variable {X : Cx} {K : PySem.W.Frag} {α : Type} [DecidableEq α] {r : Rp α} {H : Hp} {x : α} {xs : List α} {v w : V} {a : Addr} {Q : VK}
end
/-! ### ( *t, x): a tuple of the items of others -/
section
variable {K : PySem.W.Frag} {α : Type} {r : Rp α} {σ : L2.St} {H : Hp} {te : TE} {t : TA} {Q : List V → Hp → Prop} {xs ys : List α} {v : V} {a : Addr} {vs ws : List V}
end
end Mir
set_option Elab.async false
set_option linter.all false
set_option maxRecDepth 100000
namespace Mir
open PySem PySem.Spec PyProof.Rows L2 NdefX
variable [Nm]
/-! ### errors whose own __init__ says super().__init__(f".."); self.f = x -/
/-- the name's value as the text shows it -/
def FmtV (t0 : Str) (r : V) : Prop := (∃ y : Str, r = .str y ∧ strOk y ∧ strOk (Str.empty ++ t0) ∧ strOk (Str.empty ++ t0 ++ y)) ∨ ∃ i : Int, r = .int i ∧ fmtOk i ∧ strOk (Str.empty ++ t0) ∧ strOk (Str.empty ++ t0 ++ (toString i : String))
def spEI (C : Addr) (fld t0 : Str) : Sp := fun vs H Q _ => ∃ (e : Addr) (r : V), vs = [.ref e, r] ∧ H e = some (exo e C none) ∧ FmtV t0 r ∧ ∀ dx, H dx = none → dx ≠ e → Q .non (upd (upd H dx (exd dx [(fld, r)])) e (exo e C (some dx)))
section
open PySem.W
variable {X : Cx} {σ : L2.St} {H : Hp} {s : Shared} {body : List Stmt} {e C f cc cda : Addr} {fd : FuncData} {file : Str} {tf : Tok} {oc ccl cl : Value} {od cdd cld : Option Addr} {osl ccs csl : Array (Option Value)} {vs : Array Value} {ar : Arg} {a : Expr} {ta : TE} {p0 p1 p2 p7 p8 : Pos} {pl : Sem Bool}
end
section
variable {P : Program} {w : World} {K : PySem.W.Frag} {mg : Str → Option Value} {base : Heap}
end
/-! ### made, raised -/
structure XkI (P : Program) (w : World) (K : PySem.W.Frag) (mg : Str → Option Value) (base : Heap) (x : Str) (c : Addr) (fld t0 : Str) : Prop where
  g : mg x = some (.ref c)
  T : OexC K c
  ini : ∃ (fI : Addr) (fd : FuncData) (ps : List Str), PySem.W.findIn K (.ref c) "__init__" = some (some (.ref fI)) ∧ PySem.W.typeIn K (.ref fI) = some (.type "function") ∧ FnOk P w K mg base CX0 1 fI fd ps (spEI c fld t0) ∧ Binds K fd ps []
/-! ### a caught error's field -/
def rXD (f : Str) : Rp V := fun H r u => ∃ d, u = .ref d ∧ H d = some (.xd [(f, r)])
instance {f : Str} : Imm (rXD f) := ⟨fun g ⟨d, e, h⟩ => ⟨d, e, g _ _ h rfl⟩⟩
end Mir
set_option Elab.async false
set_option linter.all false
set_option maxRecDepth 100000
namespace Mir
open PySem PySem.Spec PyProof.Rows L2 NdefX
variable [Nm]
/-! ### math.isqrt -/
def sqOk (i : Int) : Prop := 0 ≤ i ∧ i < 18446744073709551616
instance (i : Int) : Decidable (sqOk i) := inferInstanceAs (Decidable (_ ∧ _))
/-! ### x = {k: v for ..} whose keys are tuples -/
section
variable {X : Cx}
end
/-! ### a tuple of numbers in such a dict -/
end Mir
set_option Elab.async false
set_option linter.all false
set_option maxRecDepth 100000
namespace Mir
open PySem PySem.Spec PyProof.Rows L2 NdefX
variable [Nm]
/-! ### the subscript of a dict display of numbers -/
/-! ### reversed -/
section
variable {α : Type} {K : PySem.W.Frag} {r : Rp α} {H0 H : Hp} {a : Addr} {xs : List α} {vs : List V} {X : Cx} {tg e : Expr} {te : TE} {σ : L2.St} {R : It → Hp → Prop}
end
/-! ### sorted, tuples of numbers -/
def sortOkT (xs : List (List Int)) : Prop := xs.length < 64 ∧ ∀ x ∈ xs, x.length = (xs.headD []).length ∧ 1 ≤ x.length ∧ ∀ n ∈ x, 0 ≤ n
instance (xs : List (List Int)) : Decidable (sortOkT xs) := by unfold sortOkT; exact inferInstance
theorem Paired.pw {α : Type} {q : α → V → Prop} {P : V → V → Prop} {R : α → α → Prop} {G : α → Prop} (z : ∀ x y v w, G x → G y → q x v → q y w → P v w → R x y) : ∀ {xs : List α} {vs : List V}, Paired q xs vs → (∀ x ∈ xs, G x) → vs.Pairwise P → xs.Pairwise R
  | _, _, .nil, _, _ => .nil
  | _, _, .cons (l₁ := xs) (l₂ := vs) h t, g, p => by
    have ⟨p1, p2⟩ := List.pairwise_cons.mp p
    refine List.pairwise_cons.mpr ⟨fun y hy => ?_, Paired.pw z t (fun x m => g x (List.mem_cons_of_mem _ m)) p2⟩
    obtain ⟨i, hi⟩ := List.getElem?_of_mem hy
    obtain ⟨v, hv, hq⟩ := Paired.at t hi
    exact z _ _ _ _ (g _ List.mem_cons_self) (g _ (List.mem_cons_of_mem _ hy)) h hq (p1 v (List.mem_of_getElem? hv))
/-! ### max of a tuple -/
section
variable {prog : Program} {w : World} {A : Around} {E : Value → Shared → Prop} {s : Shared} {l : Addr} {xs : Array (Int × Tok)}
end
/-! ### a name that is no attribute of an object's own -/
theorem lookup_no {m : Str} : ∀ {l : List (Str × V)}, (l.map (·.1)).all (fun k => !(m == k)) = true → List.lookup m l = none
  | [], _ => rfl
  | (k, v) :: l, h => by
    have h : (!(m == k) && (l.map (·.1)).all (fun k => !(m == k))) = true := h
    rw [Bool.and_eq_true] at h
    have e : (m == k) = false := by simpa using h.1
    show (match m == k with | true => some v | false => List.lookup m l) = none
    rw [e]
    exact lookup_no h.2
end Mir
set_option Elab.async false
set_option linter.all false
set_option maxRecDepth 100000
namespace Mir
open PySem PySem.Spec PyProof.Rows L2 NdefX
variable [Nm]
/-! ### operators of own objects -/
section
variable {X : Cx} {a b : Expr} {pos : Pos} {ta tb : TE} {C f : Addr} {fd : FuncData} {ps : List Str} {sp : Sp} {CX : CXT} {k : Nat} {E : L2.St → XK}
end
section
open PySem.W
variable {prog : Program} {w : World} {A A₀ : Around} {E : Value → Shared → Prop} {s : Shared} {K : PySem.W.Frag} {x C L f : Addr} {h₀ : Heap} {m : Str → Option Value} {ox : Obj} {od : Option Obj} {b : Value}
end
section
variable {X : Cx} {a b : Expr} {pos : Pos} {ta tb : TE} {C f : Addr} {fd : FuncData} {ps : List Str} {sp : Sp} {CX : CXT} {k : Nat}
end
section
open PySem.W
end
end Mir
set_option Elab.async false
set_option linter.all false
set_option maxRecDepth 100000
namespace Mir
open PySem PySem.Spec PyProof.Rows L2 NdefX
variable [Nm]
section
variable {X : Cx} {a b : Expr} {pos : Pos} {ta tb : TE} {C f : Addr} {fd : FuncData} {ps : List Str} {sp : Sp} {CX : CXT} {k : Nat} {E : L2.St → XK}
/-! ### texts -/
def catOk (i j : Str) : Prop := i.length + j.length ≤ sizeLine
instance (i j : Str) : Decidable (catOk i j) := inferInstanceAs (Decidable (_ ≤ _))
/-! ### math.lcm -/
def lcmOk (a b : Int) : Prop := a.natAbs < 1152921504606846976 ∧ b.natAbs < 1152921504606846976
instance (a b : Int) : Decidable (lcmOk a b) := inferInstanceAs (Decidable (_ ∧ _))
end
end Mir
set_option Elab.async false
set_option linter.all false
namespace Mir
open PySem PySem.Spec PyProof.Rows L2
variable [Nm]
/-- the names' slots told anew -/
theorem st_at {t : TS} {D : Ends} {σ σ' : L2.St} {H : Hp} (e : σ = σ') (h : t D σ' H) : t D σ H := e ▸ h
/-- a value of one of two types -/
def rOr {α β : Type} (r : Rp α) (s : Rp β) : Rp (Sum α β) := fun H x v => match x with
  | .inl a => r H a v
  | .inr b => s H b v
instance {α β : Type} {r : Rp α} {s : Rp β} [Imm r] [Imm s] : Imm (rOr r s) := ⟨fun {H H' x v} g h => by
  cases x with
  | inl a => exact Imm.im (r := r) g h
  | inr b => exact Imm.im (r := s) g h⟩
end Mir
set_option Elab.async false
set_option linter.all false
set_option maxRecDepth 100000
set_option maxHeartbeats 1000000
/-! ### deep data: none, flags, numbers, texts, tuples and frozen lists -/
namespace DatM
open PySem PySem.Spec PyProof.Rows L2 Mir
variable [Nm]
mutual
inductive Df (K : PySem.W.Frag) (H : Hp) : V → PyData → Prop
  | non : Df K H .non .none
  | bl (b : Bool) : Df K H (.bl b) (.bool b)
  | int (i : Int) : Df K H (.int i) (.int i)
  | str (x : Str) : Df K H (.str x) (.str x)
  | lst {a : Addr} {o : Obj} {xs : List V} {ds : List PyData} : H a = some (.frz o (.lst xs)) → DfA K H xs ds → Df K H (.ref a) (.list ds)
  | tup {a : Addr} {xs : List V} {ds : List PyData} : SqT K H a xs → DfA K H xs ds → Df K H (.ref a) (.tuple ds)
inductive DfA (K : PySem.W.Frag) (H : Hp) : List V → List PyData → Prop
  | nil : DfA K H [] []
  | cons {v : V} {vs : List V} {d : PyData} {ds : List PyData} : Df K H v d → DfA K H vs ds → DfA K H (v :: vs) (d :: ds)
end
def rD (K : PySem.W.Frag) : Rp PyData := fun H d v => Df K H v d
section
variable {K : PySem.W.Frag} {H H' : Hp}
mutual
theorem Df.im (g : Im H H') : ∀ {d : PyData} {v : V}, Df K H v d → Df K H' v d
  | _, _, .non => .non
  | _, _, .bl b => .bl b
  | _, _, .int i => .int i
  | _, _, .str x => .str x
  | _, _, .lst h t => .lst (g _ _ h rfl) (DfA.im g t)
  | _, _, .tup h t => .tup (by
      rcases h with (h | ⟨o, h⟩) | h
      · exact .inl (.inl (g _ _ h rfl))
      · exact .inl (.inr ⟨o, g _ _ h rfl⟩)
      · exact .inr h) (DfA.im g t)
theorem DfA.im (g : Im H H') : ∀ {ds : List PyData} {vs : List V}, DfA K H vs ds → DfA K H' vs ds
  | _, _, .nil => .nil
  | _, _, .cons h t => .cons (Df.im g h) (DfA.im g t)
end
instance : Imm (rD K) := ⟨fun g h => Df.im g h⟩
mutual
theorem Df.dp : ∀ {d : PyData} {v : V}, Df K H v d → Dp K H v d
  | _, _, .non => .non
  | _, _, .bl b => .bl b
  | _, _, .int i => .int i
  | _, _, .str x => .str x
  | _, _, .lst h t => .lst (.inl (.inr ⟨_, h⟩)) (DfA.dp t)
  | _, _, .tup h t => .tup h (DfA.dp t)
theorem DfA.dp : ∀ {ds : List PyData} {vs : List V}, DfA K H vs ds → DpAll K H vs ds
  | _, _, .nil => .nil
  | _, _, .cons h t => .cons (Df.dp h) (DfA.dp t)
end
theorem DfA.pair : ∀ {ds : List PyData} {vs : List V}, DfA K H vs ds → Paired (rD K H) ds vs
  | _, _, .nil => .nil
  | _, _, .cons h t => .cons h (DfA.pair t)
theorem DfA.of : ∀ {ds : List PyData} {vs : List V}, Paired (rD K H) ds vs → DfA K H vs ds
  | _, _, .nil => .nil
  | _, _, .cons h t => .cons h (DfA.of t)
/-! typed values as data -/
theorem d_non : rD K H .none .non := .non
theorem d_I {i : Int} {v : V} (h : rI H i v) : rD K H (.int i) v := by obtain rfl := h; exact .int i
theorem paired_map {α : Type} {r : Rp α} {f : α → PyData} (e : ∀ {x v}, r H x v → rD K H (f x) v) : ∀ {xs : List α} {vs : List V}, Paired (r H) xs vs → Paired (rD K H) (xs.map f) vs
  | _, _, .nil => .nil
  | _, _, .cons h t => .cons (e h) (paired_map e t)
theorem d_T {α : Type} {r : Rp α} {f : α → PyData} (e : ∀ {x v}, r H x v → rD K H (f x) v) {xs : List α} {v : V} (h : rT K r H xs v) : rD K H (.tuple (xs.map f)) v := by
  obtain ⟨a, rfl, vs, h1, h2⟩ := h
  exact .tup h1 (DfA.of (paired_map e h2))
theorem d_Z {α : Type} {r : Rp α} {f : α → PyData} (e : ∀ {x v}, r H x v → rD K H (f x) v) {xs : List α} {v : V} (h : rZ r H xs v) : rD K H (.list (xs.map f)) v := by
  obtain ⟨a, o, vs, rfl, h1, h2⟩ := h
  exact .lst h1 (DfA.of (paired_map e h2))
theorem d_P3 {α β γ : Type} {r : Rp α} {s : Rp β} {t : Rp γ} {f : α → PyData} {g : β → PyData} {k : γ → PyData} (e1 : ∀ {x v}, r H x v → rD K H (f x) v) (e2 : ∀ {x v}, s H x v → rD K H (g x) v) (e3 : ∀ {x v}, t H x v → rD K H (k x) v) {p : α × β × γ} {v : V} (h : rP3 K r s t H p v) : rD K H (.tuple [f p.1, g p.2.1, k p.2.2]) v := by
  obtain ⟨a, x, y, z, rfl, h0, h1, h2, h3⟩ := h
  exact .tup h0 (.cons (e1 h1) (.cons (e2 h2) (.cons (e3 h3) .nil)))
/-! what data are -/
def isD (T : String) : PyData → Bool
  | .none => false
  | .bool _ => T == "bool" || T == "int"
  | .int _ => T == "int"
  | .str _ => T == "str"
  | .list _ => T == "list"
  | .tuple _ => T == "tuple"
  | .dict _ => false
theorem tyD {d : PyData} {v : V} (h : rD K H d v) : ∃ S, TyX K H v (.type S) ∧ ∀ T, (T = "int" ∨ T = "bool" ∨ T = "str" ∨ T = "list" ∨ T = "tuple") → kitB S T = some (isD T d) := by
  have all : ∀ S (f : String → Bool), (kitB S "int" = some (f "int") ∧ kitB S "bool" = some (f "bool") ∧ kitB S "str" = some (f "str") ∧ kitB S "list" = some (f "list") ∧ kitB S "tuple" = some (f "tuple")) → ∀ T, (T = "int" ∨ T = "bool" ∨ T = "str" ∨ T = "list" ∨ T = "tuple") → kitB S T = some (f T) := fun S f ⟨h1, h2, h3, h4, h5⟩ T hT => by
    rcases hT with rfl | rfl | rfl | rfl | rfl
    · exact h1
    · exact h2
    · exact h3
    · exact h4
    · exact h5
  cases h with
  | non => exact ⟨"NoneType", .base .non, all _ (fun T => isD T .none) (by decide +kernel)⟩
  | bl b => exact ⟨"bool", ty_bl, all _ (fun T => isD T (.bool b)) (by simp only [isD]; decide +kernel)⟩
  | int i => exact ⟨"int", ty_int, all _ (fun T => isD T (.int i)) (by simp only [isD]; decide +kernel)⟩
  | str x => exact ⟨"str", ty_str, all _ (fun T => isD T (.str x)) (by simp only [isD]; decide +kernel)⟩
  | lst h _ => exact ⟨"list", .base (.frz h), all _ (fun T => isD T (.list _)) (by simp only [isD]; decide +kernel)⟩
  | tup h _ => exact ⟨"tuple", ty_sqt h, all _ (fun T => isD T (.tuple _)) (by simp only [isD]; decide +kernel)⟩
theorem isi_D {T : String} {d : PyData} {v : V} {Q : VK} (hT : T = "int" ∨ T = "bool" ∨ T = "str" ∨ T = "list" ∨ T = "tuple") (h : rD K H d v) (q : Q (.bl (isD T d)) H) : ap3 (rIsi K) [v, .ty T] H Q := by
  obtain ⟨S, h1, h2⟩ := tyD h
  exact isi_ty h1 (h2 T hT) q
end

/-! ### data taken as typed values -/
structure UnD {α : Type} (K : PySem.W.Frag) (r : Rp α) (u : PyData → R α) : Prop where
  no : ∀ d e, u d ≠ .er e
  re : ∀ {H : Hp} {d : PyData} {x : α} {v : V}, u d = .ok x → rD K H d v → r H x v
def unI : PyData → R Int
  | .int i => .ok i
  | _ => .out
def mapU {α : Type} (u : PyData → R α) : List PyData → R (List α)
  | [] => .ok []
  | d :: ds => (u d).bind fun x => (mapU u ds).bind fun xs => .ok (x :: xs)
def unT {α : Type} (u : PyData → R α) : PyData → R (List α)
  | .tuple l => mapU u l
  | _ => .out
def unTD : PyData → R (List PyData)
  | .tuple l => .ok l
  | _ => .out
section
variable {K : PySem.W.Frag} {α : Type} {r : Rp α} {u : PyData → R α}
theorem uI : UnD K rI unI where
  no := fun d e h => by cases d <;> cases h
  re := fun {H d x v} h q => by
    cases d with
    | int i => cases h; cases q; rfl
    | _ => cases h
theorem mapU_no (h : UnD K r u) : ∀ (l : List PyData) (e : Er), mapU u l ≠ .er e
  | [], e, q => by cases q
  | d :: ds, e, q => by
    have q : ((u d).bind fun x => (mapU u ds).bind fun xs => R.ok (x :: xs)) = .er e := q
    cases e1 : u d with
    | er e => exact h.no d e e1
    | out => rw [e1] at q; cases q
    | ok x =>
      rw [e1] at q
      cases e2 : mapU u ds with
      | er e => exact mapU_no h ds e e2
      | out => rw [R.bind, e2] at q; cases q
      | ok xs => rw [R.bind, e2] at q; cases q
theorem mapU_re (h : UnD K r u) {H : Hp} : ∀ (l : List PyData) (xs : List α) (vs : List V), mapU u l = .ok xs → Paired (rD K H) l vs → Paired (r H) xs vs
  | [], xs, vs, q, p => by cases q; cases p; exact .nil
  | d :: ds, xs, vs, q, p => by
    have q : ((u d).bind fun x => (mapU u ds).bind fun xs => R.ok (x :: xs)) = .ok xs := q
    cases p with
    | cons p1 p2 =>
      cases e1 : u d with
      | er e => exact absurd e1 (h.no d e)
      | out => rw [e1] at q; cases q
      | ok x =>
        rw [e1] at q
        cases e2 : mapU u ds with
        | er e => exact absurd e2 (mapU_no h ds e)
        | out => rw [R.bind, e2] at q; cases q
        | ok ys =>
          rw [R.bind, e2] at q
          cases q
          exact .cons (h.re e1 p1) (mapU_re h ds ys _ e2 p2)
theorem uT (h : UnD K r u) : UnD K (rT K r) (unT u) where
  no := fun d e q => by
    cases d with
    | tuple l => exact mapU_no h l e q
    | _ => cases q
  re := fun {H d x v} q p => by
    cases d with
    | tuple l =>
      cases p with
      | tup h1 h2 => exact ⟨_, rfl, _, h1, mapU_re h l x _ q h2.pair⟩
    | _ => cases q
theorem uTD : UnD K (rT K (rD K)) unTD where
  no := fun d e h => by cases d <;> cases h
  re := fun {H d x v} h q => by
    cases d with
    | tuple l =>
      cases h
      cases q with
      | tup h1 h2 => exact ⟨_, rfl, _, h1, h2.pair⟩
    | _ => cases h
theorem un_R {H : Hp} {d : PyData} {v : V} {Q : α → Prop} {E : Er → Prop} (h : UnD K r u) (q : rD K H d v) (hm : wp (u d) Q E) : ∃ x, r H x v ∧ Q x := by
  cases e : u d with
  | ok x => rw [e] at hm; exact ⟨x, h.re e q, hm⟩
  | er e' => exact absurd e (h.no d e')
  | out => rw [e] at hm; exact False.elim hm
/-! equal data -/
def shOk (d e : PyData) : Prop := SeqAt.shaped d = true ∧ SeqAt.shaped e = true
instance (d e : PyData) : Decidable (shOk d e) := inferInstanceAs (Decidable (_ ∧ _))
theorem eq_DD {H : Hp} {d e : PyData} {v w : V} {Q : VK} (c : shOk d e) (h1 : rD K H d v) (h2 : rD K H e w) (q : Q (.bl (PyData.eqv d e)) H) : rEqD K v w H Q := ⟨d, e, Df.dp h1, Df.dp h2, c.1, c.2, q⟩
theorem ne_DD {H : Hp} {d e : PyData} {v w : V} {Q : VK} (c : shOk d e) (h1 : rD K H d v) (h2 : rD K H e w) (q : Q (.bl (!PyData.eqv d e)) H) : rNeD K v w H Q := ⟨d, e, Df.dp h1, Df.dp h2, c.1, c.2, q⟩
theorem d_S {H : Hp} {b : Str} {v : V} (h : rS H b v) : rD K H (.str b) v := by obtain rfl := h; exact .str b
/-! tuples and lists of data -/
theorem d_TD {H : Hp} {xs : List PyData} {v : V} (h : rT K (rD K) H xs v) : rD K H (.tuple xs) v := by
  obtain ⟨a, rfl, vs, h1, h2⟩ := h
  exact .tup h1 (DfA.of h2)
/-! is, is not, of flags -/
theorem isnB {H : Hp} {a b : Bool} {Q : VK} (q : Q (.bl (!decide (a = b))) H) : rNotB (.bl a) (.bl b) H Q := ⟨a, b, rfl, rfl, q⟩
end
end DatM
set_option Elab.async false
set_option linter.all false
namespace Mir
open PySem PySem.Spec PyProof.Rows L2
variable [Nm]
/-! ### the mirrors' own arithmetic -/
section
variable {α σ ρ : Type}
theorem foldR_ok {f : σ → α → R σ} (h : ∀ s x, ∃ s', f s x = .ok s') : ∀ (xs : List α) (s : σ), ∃ s', foldR f s xs = .ok s'
  | [], s => ⟨s, rfl⟩
  | x :: xs, s => by
    obtain ⟨s1, e⟩ := h s x
    obtain ⟨s2, e2⟩ := foldR_ok h xs s1
    exact ⟨s2, by show (f s x).bind _ = _; rw [e]; exact e2⟩
theorem whileR_inv {c : σ → R Bool} {f : σ → R σ} (I : σ → Prop) (μ : σ → Nat) (h : ∀ s, I s → (c s = .ok true ∧ ∃ s', f s = .ok s' ∧ I s' ∧ μ s' < μ s) ∨ c s = .ok false) :
    ∀ (n : Nat) (s : σ), I s → μ s < n → ∃ s', whileR c f n s = .ok s' ∧ I s' ∧ c s' = .ok false
  | 0, s, _, hm => absurd hm (Nat.not_lt_zero _)
  | n + 1, s, hs, hm => by
    rcases h s hs with ⟨hc, s', hf, hi, hl⟩ | hc
    · obtain ⟨s2, e, i2, c2⟩ := whileR_inv I μ h n s' hi (by omega)
      refine ⟨s2, ?_, i2, c2⟩
      show (c s).bind _ = _
      rw [hc]
      show (f s).bind _ = _
      rw [hf]
      exact e
    · refine ⟨s, ?_, hs, hc⟩
      show (c s).bind _ = _
      rw [hc]
      rfl
end
theorem grd_ok {c : Prop} [Decidable c] {α : Type} {m : R α} (h : c) : grd c m = m := by
  unfold grd
  exact if_pos h
theorem mem_rng {lo x : Int} : ∀ {n : Nat}, lo ≤ x → x < lo + n → x ∈ rng lo n := by
  intro n
  induction n generalizing lo with
  | zero => intro h1 h2; omega
  | succ n ih =>
    intro h1 h2
    by_cases e : x = lo
    · exact e ▸ List.mem_cons_self
    · exact List.mem_cons_of_mem _ (ih (by omega) (by omega))
end Mir
set_option Elab.async false
set_option linter.all false
set_option maxRecDepth 100000
set_option maxHeartbeats 40000000
namespace Pf
open PySem PySem.Spec PyProof.Rows L2 Mir
open NdefX (Caps ndef_free ndef_fr)
open LamX (CodeO)
def topS (i : Nat) : Stmt := PySem.Challenge.pw_fieldmaps_k42_papers_of_orders.main.body.getD i (.Pass ⟨0, 0, 0, 0⟩)

instance : Nm := ⟨fun l c => if (l, c) = posE (aArg 1 (aReturn (aBody 1 (topS 45)))) then "order_of.<locals>.<lambda>" else if (l, c) = posE (aArg 3 (aReturn (aBody 1 (topS 27)))) then "power_row.<locals>.<lambda>" else "", fun f => [("_texts" : Str)].contains f⟩
abbrev s__law_state : Stmt := topS 49
abbrev n__law_state : List Str := ["script", "seed", "total", "cell"]
theorem sc__law_state : FnScope n__law_state ["script"] (defScope s__law_state) := ⟨rfl, rfl, rfl, by decide +kernel, rfl, by decide +kernel, by decide +kernel⟩
def m__law_state_b1 (s9 : Int × Int) (x26 : Int) : R (Int × Int) :=
  R.ok (((s9.1 * (1000003 : Int)) + (pabs x26)), (((s9.2 * (48271 : Int)) + x26) % (2147483647 : Int)))
def m__law_state (a_script : (List Int)) : R (List Int) :=
  (foldR m__law_state_b1 ((0 : Int), (1 : Int)) (cutT a_script none (some (63 : Int)))).bind fun s4 => R.ok ([s4.1, s4.2])
def sp__law_state (K : PySem.W.Frag) : Sp := fun vs H Q _ => ∃ (a_script : (List Int)) (p_script : Addr), vs = [.ref p_script] ∧ Lq K rI H p_script a_script ∧ wp (m__law_state a_script) (fun r => ∀ p H', Gr [] H H' → H p = none → Ls rI H' p r → Q (.ref p) H') (fun _ => False)
theorem ok__law_state {P : Program} {w : World} {K : PySem.W.Frag} {mg : Str → Option Value} {base : Heap} {f : Addr} {fd : FuncData} (F : Fun K "_law_state" "_law_state" s__law_state f fd) (z_abs : mg "abs" = none) (z_int : mg "int" = none) : FnOk P w K mg base CX0 1 f fd ["script"] (sp__law_state K) := by
  refine F.ok sc__law_state (fun vs H Q E h => ?_) (fun cdv A outer s H0 vs Q E hr h => ?_)
  · obtain ⟨a_script, p_script, rfl, h_script, hm⟩ := h
    rfl
  · obtain ⟨a_script, p_script, rfl, h_script, hm⟩ := h
    have hm : wp (m__law_state a_script) _ _ := hm
    unfold m__law_state at hm
    refine ⟨_, (pss_cons (ps_set (i := 1) sc__law_state.nd rfl (Or.inl rfl) pe_int) (pss_cons (ps_set (i := 2) sc__law_state.nd rfl (Or.inl rfl) pe_int) (pss_cons (ps_for PassesOwn.never rfl (pi_listK (K := K) (pe_slice (sl_listK (K := K) rfl) (pv 0) po_none (po_some pe_int)) rfl) (pg_name (i := 3) sc__law_state.nd rfl (Or.inl rfl)) (pss_cons (ps_set (i := 1) sc__law_state.nd rfl (Or.inl rfl) (pe_op op_add (pe_op op_mul (pv 1) pe_int) (pe_callB call_abs (by rfl) z_abs (by decide +kernel) (pa_cons (pv 3) pa_nil)))) (pss_one (ps_set (i := 2) sc__law_state.nd rfl (Or.inl rfl) (pe_op op_mod (pe_callTy call_int1 (by rfl) z_int (by decide +kernel) (pa_cons (pe_op op_add (pe_op op_mul (pv 2) pe_int) (pv 3)) pa_nil)) pe_int))))) (pss_one (ps_ret (pe_lst (pa_cons (pv 1) (pa_cons (pv 2) pa_nil)))))))), ?_⟩
    have g0 := Gr.refl (A := []) H0
    refine rd_seq (rd_asg (rd_c (rd_gn ?_)))
    refine rd_nx ?_
    refine rd_seq (rd_asg (rd_c (rd_gn ?_)))
    refine rd_nx ?_
    refine seq_join (t := tFor _ _ _) (wp_bind hm) (fun (s : Int × Int) (σ : L2.St) (H : Hp) => ∃ (o8 : Option V), σ = [some (.ref p_script), some (.int s.1), some (.int s.2), o8] ∧ Gr [] H0 H) (fun N2 hN3 hm => ?_) (fun s4 σ H5 hr6 hm => ?_)
    · have gl7 := Gr.refl (A := []) H0
      refine rd_for (rd_il (rd_sl (rd_var rfl (rd_np (rd_part (rd_c (rd_kI (cut_L (K := K) h_script fun p13 H14 n15 g16 h17 => ?_))))))))
      have ne18 := sep_new (p := p13) h_script n15
      have nw19 := Gr.free g0 n15
      have nw20 := Gr.free gl7 n15
      have h_script := Lq.g0 g16 h_script
      have g0 := g0.of0' g16
      have gl7 := gl7.of0' g16
      obtain ⟨vs21, hl22, hp23⟩ := id (Ls.q h17)
      have gl25 := Gr.refl (A := []) H14
      refine ⟨_, rfl, ⟨_, hl22⟩, for_lstR (r := rI) (H0 := H14) (fun (s : Int × Int) (σ : L2.St) (H : Hp) => ∃ (o24 : Option V), σ = [some (.ref p_script), some (.int s.1), some (.int s.2), o24] ∧ Gr [] H14 H) hp23 (by exact wp_N hm (fun s σ' H' hr hz => hN3 s σ' H' (by obtain ⟨w0, e, g⟩ := hr; exact ⟨w0, e, gl7.trans g⟩) hz)) ⟨_, rfl, gl25⟩ (fun _ _ _ hr => by obtain ⟨_, _, g⟩ := hr; exact g.lst nin0 hl22) (fun x26 v27 s9 σ H10 N12 hx28 hr11 hm => ?_)⟩
      unfold m__law_state_b1 at hm
      obtain ⟨o31, rfl, g30⟩ := hr11
      have h_script := Lq.gA g30 nin0 h_script
      have g0 := Gr.of0' g0 g30
      have gl25 := Gr.of0' gl25 g30
      obtain rfl := hx28
      refine rd_gn (rd_seq (rd_asg (rd_op (rd_op (rd_var rfl (rd_c (rd_rI (.inr ⟨by decide, by decide⟩) (rd_cb (rd_cons (rd_var rfl (rd_nil (rd_abs (rd_rI0 (rd_gn ?_))))))))))))))
      refine rd_nx ?_
      refine rd_asg (rd_op (rd_cb (rd_cons (rd_op (rd_op (rd_var rfl (rd_c (rd_rI (.inr ⟨by decide, by decide⟩) (rd_var rfl (rd_rI0 (rd_nil (rd_int (rd_c (rd_rI (by show (0 : Int) < 2147483647; decide) (rd_gn ?_)))))))))))))))
      exact hm _ _ ⟨_, rfl, gl25⟩
    obtain ⟨o33, rfl, g32⟩ := hr6
    have h_script := Lq.gA g32 nin0 h_script
    have g0 := Gr.of0' g0 g32
    refine rd_ret (rd_lst (rd_cons (rd_var rfl (rd_cons (rd_var rfl (rd_nil (mk_L (r := rI) (xs := [s4.1, s4.2]) (.cons rfl (.cons rfl .nil)) (by show 2 ≤ sizeLine; decide) fun p34 H35 n36 g37 h38 => ?_)))))))
    have nw39 := Gr.free g0 n36
    have g0 := g0.of0' g37
    exact hm _ _ g0 nw39 h38

abbrev s__law_take : Stmt := topS 50
abbrev n__law_take : List Str := ["state", "m", "value"]
theorem sc__law_take : FnScope n__law_take ["state", "m"] (defScope s__law_take) := ⟨rfl, rfl, rfl, by decide +kernel, rfl, by decide +kernel, by decide +kernel⟩
def m__law_take (a_state : (List Int)) (a_m : Int) : R (Int × (List Int)) :=
  (getL a_state (0 : Int)).bind fun t1 => if (decide ((0 : Int) < t1)) = true then ((getL a_state (0 : Int)).bind fun t5 => grd (0 < a_m) <| (getL a_state (0 : Int)).bind fun t9 => grd (CDiv t9 a_m) <| (setL a_state (0 : Int) (t9 / a_m)).bind fun t13 => R.ok ((t5 % a_m), t13)) else ((getL a_state (1 : Int)).bind fun t17 => (setL a_state (1 : Int) (((t17 * (48271 : Int)) + (11 : Int)) % (2147483647 : Int))).bind fun t20 => (getL t20 (1 : Int)).bind fun t24 => grd (0 < a_m) <| R.ok (((t24 / (7 : Int)) % a_m), t20))
def sp__law_take (K : PySem.W.Frag) : Sp := fun vs H Q _ => ∃ (a_state : (List Int)) (p_state : Addr) (a_m : Int), vs = [.ref p_state, (.int a_m)] ∧ Ls rI H p_state a_state ∧ wp (m__law_take a_state a_m) (fun r => ∀ H', Gr [p_state] H H' → Ls rI H' p_state r.2 → Q (.int r.1) H') (fun _ => False)
theorem ok__law_take {P : Program} {w : World} {K : PySem.W.Frag} {mg : Str → Option Value} {base : Heap} {f : Addr} {fd : FuncData} (F : Fun K "_law_take" "_law_take" s__law_take f fd) (z_int : mg "int" = none) : FnOk P w K mg base CX0 1 f fd ["state", "m"] (sp__law_take K) := by
  refine F.ok sc__law_take (fun vs H Q E h => ?_) (fun cdv A outer s H0 vs Q E hr h => ?_)
  · obtain ⟨a_state, p_state, a_m, rfl, h_state, hm⟩ := h
    rfl
  · obtain ⟨a_state, p_state, a_m, rfl, h_state, hm⟩ := h
    have hm : wp (m__law_take a_state a_m) _ _ := hm
    unfold m__law_take at hm
    refine ⟨_, (pss_cons (ps_if (pt_cmpR op_gt (pe_ix (ix_listK (K := K) rfl) (pv 0) pe_int (fun _ _ => rfl)) pe_int (nomark _)) (pss_cons (ps_set (i := 2) sc__law_take.nd rfl (Or.inl rfl) (pe_op op_mod (pe_callTy call_int1 (by rfl) z_int (by decide +kernel) (pa_cons (pe_ix (ix_listK (K := K) rfl) (pv 0) pe_int (fun _ _ => rfl)) pa_nil)) (pv 1))) (pss_cons (ps_asg (pe_op op_fdiv (pe_ix (ix_listK (K := K) rfl) (pv 0) pe_int (fun _ _ => rfl)) (pv 1)) (pg_sub (pv 0) pe_int set_list)) (pss_one (ps_ret (pv 2))))) pss_nil) (pss_cons (ps_asg (pe_op op_mod (pe_callTy call_int1 (by rfl) z_int (by decide +kernel) (pa_cons (pe_op op_add (pe_op op_mul (pe_ix (ix_listK (K := K) rfl) (pv 0) pe_int (fun _ _ => rfl)) pe_int) pe_int) pa_nil)) pe_int) (pg_sub (pv 0) pe_int set_list)) (pss_one (ps_ret (pe_op op_mod (pe_callTy call_int1 (by rfl) z_int (by decide +kernel) (pa_cons (pe_op op_fdiv (pe_ix (ix_listK (K := K) rfl) (pv 0) pe_int (fun _ _ => rfl)) pe_int) pa_nil)) (pv 1)))))), ?_⟩
    have g0 := Gr.refl (A := [p_state]) H0
    refine rd_seq (rd_if (rd_T (rd_op (rd_op (rd_var rfl (rd_c (ix_L (Ls.q h_state) (wp_bind hm) fun t1 v2 h3 hm => ?_)))))))
    obtain rfl := h3
    refine rd_c (rd_rI0 (rd_kB ?_))
    refine iteB (fun e4 => ?_) (fun e4 => ?_)
    · have hm := ifT e4 (wp_iteB hm)
      refine rd_seq (rd_asg (rd_op (rd_cb (rd_cons (rd_op (rd_var rfl (rd_c (ix_L (Ls.q h_state) (wp_bind hm) fun t5 v6 h7 hm => ?_))))))))
      obtain rfl := h7
      obtain ⟨c8, hm⟩ := wp_grd hm
      refine rd_nil (rd_int (rd_var rfl (rd_rI c8 (rd_gn ?_))))
      refine rd_nx ?_
      refine rd_seq (rd_asg (rd_op (rd_op (rd_var rfl (rd_c (ix_L (Ls.q h_state) (wp_bind hm) fun t9 v10 h11 hm => ?_))))))
      obtain rfl := h11
      obtain ⟨c12, hm⟩ := wp_grd hm
      refine rd_var rfl (rd_rI c12 (rd_gs (rd_var rfl (rd_c (rd_set h_state rfl (wp_bind hm) fun t13 H14 g15 h16 hm => ?_)))))
      have g0 := Gr.at1 g0 (by simp) g15
      refine rd_nx ?_
      exact rd_ret (rd_var rfl (hm _ g0 h16))
    have hm := ifF e4 (wp_iteB hm)
    refine rd_next (rd_nx ?_)
    refine rd_seq (rd_asg (rd_op (rd_cb (rd_cons (rd_op (rd_op (rd_op (rd_var rfl (rd_c (ix_L (Ls.q h_state) (wp_bind hm) fun t17 v18 h19 hm => ?_))))))))))
    obtain rfl := h19
    refine rd_c (rd_rI (.inr ⟨by decide, by decide⟩) (rd_c (rd_rI0 (rd_nil (rd_int (rd_c (rd_rI (by show (0 : Int) < 2147483647; decide) (rd_gs (rd_var rfl (rd_c (rd_set h_state rfl (wp_bind hm) fun t20 H21 g22 h23 hm => ?_)))))))))))
    have g0 := Gr.at1 g0 (by simp) g22
    refine rd_nx ?_
    refine rd_ret (rd_op (rd_cb (rd_cons (rd_op (rd_op (rd_var rfl (rd_c (ix_L (Ls.q h23) (wp_bind hm) fun t24 v25 h26 hm => ?_))))))))
    obtain rfl := h26
    obtain ⟨c27, hm⟩ := wp_grd hm
    exact rd_c (rd_rI ⟨by decide, by decide⟩ (rd_nil (rd_int (rd_var rfl (rd_rI c27 (hm _ g0 h23))))))

abbrev s__law_is_prime_row : Stmt := topS 53
abbrev n__law_is_prime_row : List Str := ["p", "row", "x", "value", "k"]
theorem sc__law_is_prime_row : FnScope n__law_is_prime_row ["p", "row"] (defScope s__law_is_prime_row) := ⟨rfl, rfl, rfl, by decide +kernel, rfl, by decide +kernel, by decide +kernel⟩
def m__law_is_prime_row_b1 (a_p : Int) (a_row : (List Int)) (x17 : Int) (s33 : Int) (x39 : Int) : R (Int) :=
  grd (CMul s33 x17) <| (getL a_row ((((a_row).length : Int) - (1 : Int)) - x39)).bind fun t46 => grd (0 < a_p) <| R.ok (((s33 * x17) + t46) % a_p)
def m__law_is_prime_row_b2 (a_p : Int) (a_row : (List Int)) (s11 : Unit) (x17 : Int) : R (Lp (Unit) (Bool)) :=
  (grd (rgOk ((a_row).length : Int)) <| foldR (m__law_is_prime_row_b1 a_p a_row x17) (0 : Int) (rng 0 (((a_row).length : Int)).toNat)).bind fun s28 => if (decide (s28 = (0 : Int))) = true then (R.ok (Lp.rt (decide (((a_row).length : Int) = (2 : Int))))) else (R.ok (Lp.nx ()))
def m__law_is_prime_row (a_p : Int) (a_row : (List Int)) : R Bool :=
  (grd (rgOk a_p) <| loopR (m__law_is_prime_row_b2 a_p a_row) () (rng 0 (a_p).toNat)).bind fun o => Le.thn o (fun s4 => R.ok true) (fun r => R.ok r)
def sp__law_is_prime_row (K : PySem.W.Frag) : Sp := fun vs H Q _ => ∃ (a_p : Int) (a_row : (List Int)) (p_row : Addr), vs = [(.int a_p), .ref p_row] ∧ Ls rI H p_row a_row ∧ wp (m__law_is_prime_row a_p a_row) (fun r => ∀ H', Gr [] H H' → Q (.bl r) H') (fun _ => False)
theorem ok__law_is_prime_row {P : Program} {w : World} {K : PySem.W.Frag} {mg : Str → Option Value} {base : Heap} {f : Addr} {fd : FuncData} (F : Fun K "_law_is_prime_row" "_law_is_prime_row" s__law_is_prime_row f fd) (z_range : mg "range" = none) (z_len : mg "len" = none) (z_int : mg "int" = none) : FnOk P w K mg base CX0 1 f fd ["p", "row"] (sp__law_is_prime_row K) := by
  refine F.ok sc__law_is_prime_row (fun vs H Q E h => ?_) (fun cdv A outer s H0 vs Q E hr h => ?_)
  · obtain ⟨a_p, a_row, p_row, rfl, h_row, hm⟩ := h
    rfl
  · obtain ⟨a_p, a_row, p_row, rfl, h_row, hm⟩ := h
    have hm : wp (m__law_is_prime_row a_p a_row) _ _ := hm
    unfold m__law_is_prime_row at hm
    refine ⟨_, (pss_cons (ps_for PassesOwn.never rfl (pi_range1 (by rfl) z_range (pa_cons (pv 0) pa_nil)) (pg_name (i := 2) sc__law_is_prime_row.nd rfl (Or.inl rfl)) (pss_cons (ps_set (i := 3) sc__law_is_prime_row.nd rfl (Or.inl rfl) pe_int) (pss_cons (ps_for PassesOwn.never rfl (pi_range1 (by rfl) z_range (pa_cons (pe_callB (lenK (K := K) rfl) (by rfl) z_len PySem.boot_len (pa_cons (pv 1) pa_nil)) pa_nil)) (pg_name (i := 4) sc__law_is_prime_row.nd rfl (Or.inl rfl)) (pss_one (ps_set (i := 3) sc__law_is_prime_row.nd rfl (Or.inl rfl) (pe_op op_mod (pe_callTy call_int1 (by rfl) z_int (by decide +kernel) (pa_cons (pe_op op_add (pe_op op_mul (pv 3) (pv 2)) (pe_ix (ix_listK (K := K) rfl) (pv 1) (pe_op op_sub (pe_op op_sub (pe_callB (lenK (K := K) rfl) (by rfl) z_len PySem.boot_len (pa_cons (pv 1) pa_nil)) pe_int) (pv 4)) (fun _ _ => rfl))) pa_nil)) (pv 0))))) (pss_one (ps_if (pt_cmpR op_eqI (pv 3) pe_int (nomark _)) (pss_one (ps_ret (pe_cmpR op_eqI (pe_callB (lenK (K := K) rfl) (by rfl) z_len PySem.boot_len (pa_cons (pv 1) pa_nil)) pe_int (nomark _)))) pss_nil))))) (pss_one (ps_ret pe_bl))), ?_⟩
    have g0 := Gr.refl (A := []) H0
    refine seq_joinL (t := tFor _ _ _) (wp_le hm) (fun (s : Unit) (σ : L2.St) (H : Hp) => ∃ (o8 : Option V) (o9 : Option V) (o10 : Option V), σ = [some (.int a_p), some (.ref p_row), o8, o9, o10] ∧ Gr [] H0 H) (fun N2 hm => ?_) (fun s4 σ H5 hr6 hm => ?_)
    · have gl7 := Gr.refl (A := []) H0
      obtain ⟨c15, hm⟩ := wp_grd hm
      have gl16 := Gr.refl (A := []) H0
      refine rd_for (rd_r1 (rd_cons (rd_var rfl (rd_nil ⟨_, rfl, c15.1, c15.2, for_rngL (lo := 0) (n := (a_p).toNat) (fun (s : Unit) (σ : L2.St) (H : Hp) => ∃ (o8 : Option V) (o9 : Option V) (o10 : Option V), σ = [some (.int a_p), some (.ref p_row), o8, o9, o10] ∧ Gr [] H0 H) (by exact wp_imp hm (fun o ho => leP_imp ho (fun s hz σ' H' hr => hz σ' H' hr) (fun _ h => h)) (fun _ e => e)) ⟨_, _, _, rfl, gl16⟩ (fun x17 s11 σ H12 N14 hr13 hm => ?_)⟩))))
      unfold m__law_is_prime_row_b2 at hm
      obtain ⟨o22, o23, o24, rfl, g21⟩ := hr13
      have h_row := Ls.gA g21 nin0 h_row
      have g0 := Gr.of0' g0 g21
      have gl16 := Gr.of0' gl16 g21
      refine rd_gn (rd_seq (rd_asg (rd_c (rd_gn ?_))))
      refine rd_nx ?_
      refine seq_join (t := tFor _ _ _) (wp_bind hm) (fun (s : Int) (σ : L2.St) (H : Hp) => ∃ (o32 : Option V), σ = [some (.int a_p), some (.ref p_row), some (.int x17), some (.int s), o32] ∧ Gr [] H12 H) (fun N26 hN27 hm => ?_) (fun s28 σ H29 hr30 hm => ?_)
      · have gl31 := Gr.refl (A := []) H12
        obtain ⟨c37, hm⟩ := wp_grd hm
        have gl38 := Gr.refl (A := []) H12
        refine rd_for (rd_r1 (rd_cons (rd_cb (rd_cons (rd_var rfl (rd_nil (len_L (Ls.q h_row) (rd_nil ⟨_, rfl, c37.1, c37.2, for_rngR (lo := 0) (n := (((a_row).length : Int)).toNat) (fun (s : Int) (σ : L2.St) (H : Hp) => ∃ (o32 : Option V), σ = [some (.int a_p), some (.ref p_row), some (.int x17), some (.int s), o32] ∧ Gr [] H12 H) (by exact wp_N hm (fun s σ' H' hr hz => hN27 s σ' H' hr hz)) ⟨_, rfl, gl38⟩ (fun x39 s33 σ H34 N36 hr35 hm => ?_)⟩))))))))
        unfold m__law_is_prime_row_b1 at hm
        obtain ⟨o44, rfl, g43⟩ := hr35
        have h_row := Ls.gA g43 nin0 h_row
        have g0 := Gr.of0' g0 g43
        have gl16 := Gr.of0' gl16 g43
        have gl38 := Gr.of0' gl38 g43
        obtain ⟨c45, hm⟩ := wp_grd hm
        refine rd_gn (rd_asg (rd_op (rd_cb (rd_cons (rd_op (rd_op (rd_var rfl (rd_var rfl (rd_rI (c45) (rd_op (rd_var rfl (rd_op (rd_op (rd_cb (rd_cons (rd_var rfl (rd_nil (len_L (Ls.q h_row) (rd_c (rd_rI0 (rd_var rfl (rd_rI0 (ix_L (Ls.q h_row) (wp_bind hm) fun t46 v47 h48 hm => ?_)))))))))))))))))))))))
        obtain rfl := h48
        obtain ⟨c49, hm⟩ := wp_grd hm
        refine rd_rI0 (rd_nil (rd_int (rd_var rfl (rd_rI c49 (rd_gn ?_)))))
        exact hm _ _ ⟨_, rfl, gl38⟩
      obtain ⟨o51, rfl, g50⟩ := hr30
      have h_row := Ls.gA g50 nin0 h_row
      have g0 := Gr.of0' g0 g50
      have gl16 := Gr.of0' gl16 g50
      refine rd_if (rd_T (rd_op (rd_var rfl (rd_c (rd_rI0 (rd_kB ?_))))))
      refine iteB (fun e52 => ?_) (fun e52 => ?_)
      · have hm := ifT e52 (wp_iteB hm)
        exact rd_ret (rd_op (rd_cb (rd_cons (rd_var rfl (rd_nil (len_L (Ls.q h_row) (rd_c (rd_rI0 (hm _ g0)))))))))
      have hm := ifF e52 (wp_iteB hm)
      exact rd_next (hm _ _ ⟨_, _, _, rfl, gl16⟩)
    obtain ⟨o54, o55, o56, rfl, g53⟩ := hr6
    have h_row := Ls.gA g53 nin0 h_row
    have g0 := Gr.of0' g0 g53
    exact rd_ret (rd_c (hm _ g0))

abbrev s__law_modulus : Stmt := topS 54
abbrev n__law_modulus : List Str := ["state", "p", "n", "k", "row", "turn", "at"]
theorem sc__law_modulus : FnScope n__law_modulus ["state", "p", "n"] (defScope s__law_modulus) := ⟨rfl, rfl, rfl, by decide +kernel, rfl, by decide +kernel, by decide +kernel⟩
def m__law_modulus_b1 (a_p : Int) (s9 : List Int × List Int) (x10 : Int) : R (List Int × List Int) :=
  (m__law_take s9.2 a_p).bind fun t23 => grd (lenLt s9.1) <| R.ok ((s9.1 ++ [t23.1]), t23.2)
def m__law_modulus_b2 (a_p : Int) (s89 : (List Int) × Int) (x95 : Int) : R ((List Int) × Int) :=
  if (decide (s89.2 = x95)) = true then ((getL s89.1 x95).bind fun t103 => grd (0 < a_p) <| (setL s89.1 x95 ((t103 + (1 : Int)) % a_p)).bind fun t107 => (getL t107 x95).bind fun t111 => if (decide (t111 = (0 : Int))) = true then (R.ok (t107, (x95 + (1 : Int)))) else (R.ok (t107, s89.2))) else (R.ok (s89.1, s89.2))
def m__law_modulus_b3 (a_p : Int) (a_n : Int) (s60 : (List Int)) (x68 : Int) : R ((List Int)) :=
  (m__law_is_prime_row a_p s60).bind fun t77 => if (!t77) = true then ((grd (rgOk a_n) <| foldR (m__law_modulus_b2 a_p) (s60, (0 : Int)) (rng 0 (a_n).toNat)).bind fun s84 => R.ok s84.1) else (R.ok s60)
def m__law_modulus (a_state : (List Int)) (a_p : Int) (a_n : Int) : R ((List Int) × (List Int)) :=
  grd (rgOk a_n) <| (foldR (m__law_modulus_b1 a_p) ([], a_state) (rng 0 (a_n).toNat)).bind fun s16 => grd (lenOk (s16.1 ++ [(1 : Int)])) <| (grd (CMul a_p a_p) <| grd (CMul (a_p * a_p) a_p) <| grd (rgOk ((a_p * a_p) * a_p)) <| foldR (m__law_modulus_b3 a_p a_n) (s16.1 ++ [(1 : Int)]) (rng 0 (((a_p * a_p) * a_p)).toNat)).bind fun s53 => R.ok (s53, s16.2)
def sp__law_modulus (K : PySem.W.Frag) : Sp := fun vs H Q _ => ∃ (a_state : (List Int)) (p_state : Addr) (a_p : Int) (a_n : Int), vs = [.ref p_state, (.int a_p), (.int a_n)] ∧ Ls rI H p_state a_state ∧ wp (m__law_modulus a_state a_p a_n) (fun r => ∀ v H', Gr [p_state] H H' → (rT K rI) H' r.1 v → Ls rI H' p_state r.2 → Q v H') (fun _ => False)
theorem ok__law_modulus {P : Program} {w : World} {K : PySem.W.Frag} {mg : Str → Option Value} {base : Heap} {f : Addr} {fd : FuncData} (F : Fun K "_law_modulus" "_law_modulus" s__law_modulus f fd) (z_range : mg "range" = none) (z_int : mg "int" = none) (z_tuple : mg "tuple" = none) (c__law_take : Cal P w K mg base CX0 1 "_law_take" ["state", "m"] (sp__law_take K)) (c__law_is_prime_row : Cal P w K mg base CX0 1 "_law_is_prime_row" ["p", "row"] (sp__law_is_prime_row K)) : FnOk P w K mg base CX0 2 f fd ["state", "p", "n"] (sp__law_modulus K) := by
  obtain ⟨f__law_take, fd__law_take, G__law_take, g__law_take, k__law_take, b__law_take⟩ := c__law_take
  obtain ⟨f__law_is_prime_row, fd__law_is_prime_row, G__law_is_prime_row, g__law_is_prime_row, k__law_is_prime_row, b__law_is_prime_row⟩ := c__law_is_prime_row
  refine F.ok sc__law_modulus (fun vs H Q E h => ?_) (fun cdv A outer s H0 vs Q E hr h => ?_)
  · obtain ⟨a_state, p_state, a_p, a_n, rfl, h_state, hm⟩ := h
    rfl
  · obtain ⟨a_state, p_state, a_p, a_n, rfl, h_state, hm⟩ := h
    have hm : wp (m__law_modulus a_state a_p a_n) _ _ := hm
    unfold m__law_modulus at hm
    refine ⟨_, (pss_cons (ps_set (i := 4) sc__law_modulus.nd rfl (Or.inl rfl) (pe_op op_cat (pe_lc (own := [("k", 3)]) (g := gName 3) (tt := tYes) rfl sc__law_modulus.nd (pi_range1 (by rfl) z_range (pa_cons (pv 2) pa_nil)) (blkOk_by (own := [("k", 3)]) (N := n__law_modulus) (sc := defScope s__law_modulus) (by decide +kernel)) (fun _ _ _ _ _ => pg_name (i := 3) sc__law_modulus.nd rfl (Or.inl rfl)) (fun _ _ _ _ _ => pts_nil) (fun _ _ _ _ _ => (pe_call G__law_take (hr.mono (by decide)) (by rfl) g__law_take k__law_take b__law_take .nil pass0 (pa_cons (pv 0) (pa_cons (pv 1) pa_nil))))) (pe_lst (pa_cons pe_int pa_nil)))) (pss_cons (ps_for PassesOwn.never rfl (pi_range1 (by rfl) z_range (pa_cons (pe_op op_mul (pe_op op_mul (pv 1) (pv 1)) (pv 1)) pa_nil)) (pg_name (i := 5) sc__law_modulus.nd rfl (Or.inl rfl)) (pss_one (ps_if (pt_not (pt_val (pe_call G__law_is_prime_row (hr.mono (by decide)) (by rfl) g__law_is_prime_row k__law_is_prime_row b__law_is_prime_row .nil pass0 (pa_cons (pv 1) (pa_cons (pv 4) pa_nil))))) (pss_cons (ps_set (i := 6) sc__law_modulus.nd rfl (Or.inl rfl) pe_int) (pss_one (ps_for PassesOwn.never rfl (pi_range1 (by rfl) z_range (pa_cons (pv 2) pa_nil)) (pg_name (i := 3) sc__law_modulus.nd rfl (Or.inl rfl)) (pss_one (ps_if (pt_cmpR op_eqI (pv 6) (pv 3) (nomark _)) (pss_cons (ps_asg (pe_op op_mod (pe_callTy call_int1 (by rfl) z_int (by decide +kernel) (pa_cons (pe_op op_add (pe_ix (ix_listK (K := K) rfl) (pv 4) (pv 3) (fun _ _ => rfl)) pe_int) pa_nil)) (pv 1)) (pg_sub (pv 4) (pv 3) set_list)) (pss_one (ps_if (pt_cmpR op_eqI (pe_ix (ix_listK (K := K) rfl) (pv 4) (pv 3) (fun _ _ => rfl)) pe_int (nomark _)) (pss_one (ps_set (i := 6) sc__law_modulus.nd rfl (Or.inl rfl) (pe_op op_add (pv 3) pe_int))) pss_nil))) pss_nil))))) pss_nil))) (pss_one (ps_ret (pe_callTy (tupleK (K := K) rfl) (by rfl) z_tuple (by decide +kernel) (pa_cons (pv 4) pa_nil)))))), ?_⟩
    have g0 := Gr.refl (A := [p_state]) H0
    obtain ⟨c1, hm⟩ := wp_grd hm
    refine rd_seq (rd_asg (rd_op (rd_lc (rd_r1 (rd_cons (rd_var rfl (rd_nil ⟨_, rfl, c1.1, c1.2, fun p2 n3 => ?_⟩)))))))
    have ne4 : p_state ≠ p2 := Ls.ne h_state n3
    have nw5 := Gr.free g0 n3
    refine lc_rng (lo := 0) (n := (a_n).toNat) (fun (s : List Int × List Int) (H : Hp) => Gr [p_state] H0 H ∧ Ls rI H p2 s.1 ∧ Ls rI H p_state s.2) (wp_bind hm) ⟨Gr.new n3, ⟨[], upd_same, .nil⟩, Ls.g0 (Gr.new (A := []) n3) h_state⟩ (fun x10 s9 H13 N14 hr15 hm => ?_) (fun s16 H17 hr18 hm => ?_)
    · unfold m__law_modulus_b1 at hm
      obtain ⟨g19, h20, h21⟩ := hr15
      have g0 := Gr.many g0 (all1 ((.inl (by simp))) all0) g19
      have gl22 := g19
      refine rd_gn ⟨rfl, rd_yes (iteT (rd_call (rd_cons (rd_var rfl (rd_cons (rd_var rfl (rd_nil ⟨_, _, _, rfl, h21, wp_imp (wp_bind hm) (fun t23 hm H24 g25 h26 => ?_) (fun _ e => e)⟩)))))))⟩
      have h20 := Ls.g1 g25 (Ne.symm ne4) h20
      have g0 := Gr.at1 g0 (by simp) g25
      have gl22 := Gr.at1 gl22 (by simp) g25
      obtain ⟨c27, hm⟩ := wp_grd hm
      refine lc_add h20 rfl c27 fun H28 g29 h30 => ?_
      have h26 := Ls.g1 g29 ne4 h26
      have g0 := Gr.loc g0 nw5 g29
      have gl22 := Gr.loc gl22 n3 g29
      exact hm _ ⟨gl22, h30, h26⟩
    obtain ⟨g31, h32, h33⟩ := hr18
    have g0 := Gr.many g0 (all1 ((.inl (by simp))) all0) g31
    refine rd_lst (rd_cons (rd_c (rd_nil (mk_L (r := rI) (xs := [(1 : Int)]) (.cons rfl .nil) (by show 1 ≤ sizeLine; decide) fun p34 H35 n36 g37 h38 => ?_))))
    have ne39 : p_state ≠ p34 := Ls.ne h33 n36
    have ne40 : p2 ≠ p34 := Ls.ne h32 n36
    have nw41 := Gr.free g0 n36
    have h33 := Ls.g0 g37 h33
    have h32 := Ls.g0 g37 h32
    have g0 := g0.of0' g37
    obtain ⟨c42, hm⟩ := wp_grd hm
    refine cat_L h32 h38 c42 fun p43 H44 n45 g46 h47 => ?_
    have ne48 : p_state ≠ p43 := Ls.ne h33 n45
    have nw49 := Gr.free g0 n45
    have h33 := Ls.g0 g46 h33
    have g0 := g0.of0' g46
    refine rd_gn ?_
    refine rd_nx ?_
    refine seq_join (t := tFor _ _ _) (wp_bind hm) (fun (s : (List Int)) (σ : L2.St) (H : Hp) => ∃ (o57 : Option V) (o58 : Option V) (o59 : Option V), σ = [some (.ref p_state), some (.int a_p), some (.int a_n), o57, some (.ref p43), o58, o59] ∧ Gr [p43] H44 H ∧ Ls rI H p43 s) (fun N51 hN52 hm => ?_) (fun s53 σ H54 hr55 hm => ?_)
    · have gl56 := Gr.refl (A := [p43]) H44
      obtain ⟨c64, hm⟩ := wp_grd hm
      obtain ⟨c65, hm⟩ := wp_grd hm
      obtain ⟨c66, hm⟩ := wp_grd hm
      have gl67 := Gr.refl (A := [p43]) H44
      refine rd_for (rd_r1 (rd_cons (rd_op (rd_op (rd_var rfl (rd_var rfl (rd_rI (c64) (rd_var rfl (rd_rI (c65) (rd_nil ⟨_, rfl, c66.1, c66.2, for_rngR (lo := 0) (n := (((a_p * a_p) * a_p)).toNat) (fun (s : (List Int)) (σ : L2.St) (H : Hp) => ∃ (o57 : Option V) (o58 : Option V) (o59 : Option V), σ = [some (.ref p_state), some (.int a_p), some (.int a_n), o57, some (.ref p43), o58, o59] ∧ Gr [p43] H44 H ∧ Ls rI H p43 s) (by exact wp_N hm (fun s σ' H' hr hz => hN52 s σ' H' hr hz)) ⟨_, _, _, rfl, gl67, h47⟩ (fun x68 s60 σ H61 N63 hr62 hm => ?_)⟩))))))))))
      unfold m__law_modulus_b3 at hm
      obtain ⟨o73, o75, o76, rfl, g72, h74⟩ := hr62
      have h33 := Ls.gA g72 (nin1 ne48 nin0) h33
      have g0 := Gr.many g0 (all1 ((.inr nw49)) all0) g72
      have gl67 := Gr.many gl67 (all1 ((.inl (by simp))) all0) g72
      refine rd_gn (rd_if (rd_not (rd_B (rd_call (rd_cons (rd_var rfl (rd_cons (rd_var rfl (rd_nil ⟨_, _, _, rfl, h74, wp_imp (wp_bind hm) (fun t77 hm H78 g79 => ?_) (fun _ e => e)⟩)))))))))
      have h33 := Ls.g0 g79 h33
      have h74 := Ls.g0 g79 h74
      have g0 := g0.of0' g79
      have gl67 := gl67.of0' g79
      refine rd_kB ?_
      refine iteB (fun e80 => ?_) (fun e80 => ?_)
      · have hm := ifT e80 (wp_iteB hm)
        refine rd_seq (rd_asg (rd_c (rd_gn ?_)))
        refine rd_nx ?_
        refine nx_join (t := tFor _ _ _) (wp_bind hm) (fun (s : (List Int) × Int) (σ : L2.St) (H : Hp) => ∃ (o88 : Option V), σ = [some (.ref p_state), some (.int a_p), some (.int a_n), o88, some (.ref p43), some (.int x68), some (.int s.2)] ∧ Gr [p43] H78 H ∧ Ls rI H p43 s.1) (fun N82 hN83 hm => ?_) (fun s84 σ H85 hr86 hm => ?_)
        · have gl87 := Gr.refl (A := [p43]) H78
          obtain ⟨c93, hm⟩ := wp_grd hm
          have gl94 := Gr.refl (A := [p43]) H78
          refine rd_for (rd_r1 (rd_cons (rd_var rfl (rd_nil ⟨_, rfl, c93.1, c93.2, for_rngR (lo := 0) (n := (a_n).toNat) (fun (s : (List Int) × Int) (σ : L2.St) (H : Hp) => ∃ (o88 : Option V), σ = [some (.ref p_state), some (.int a_p), some (.int a_n), o88, some (.ref p43), some (.int x68), some (.int s.2)] ∧ Gr [p43] H78 H ∧ Ls rI H p43 s.1) (by exact wp_N hm (fun s σ' H' hr hz => hN83 s σ' H' hr hz)) ⟨_, rfl, gl94, h74⟩ (fun x95 s89 σ H90 N92 hr91 hm => ?_)⟩))))
          unfold m__law_modulus_b2 at hm
          obtain ⟨o100, rfl, g99, h101⟩ := hr91
          have h33 := Ls.gA g99 (nin1 ne48 nin0) h33
          have g0 := Gr.many g0 (all1 ((.inr nw49)) all0) g99
          have gl67 := Gr.many gl67 (all1 ((.inl (by simp))) all0) g99
          have gl94 := Gr.many gl94 (all1 ((.inl (by simp))) all0) g99
          refine rd_gn (rd_if (rd_T (rd_op (rd_var rfl (rd_var rfl (rd_rI0 (rd_kB ?_)))))))
          refine iteB (fun e102 => ?_) (fun e102 => ?_)
          · have hm := ifT e102 (wp_iteB hm)
            refine rd_seq (rd_asg (rd_op (rd_cb (rd_cons (rd_op (rd_op (rd_var rfl (rd_var rfl (ix_L (Ls.q h101) (wp_bind hm) fun t103 v104 h105 hm => ?_)))))))))
            obtain rfl := h105
            obtain ⟨c106, hm⟩ := wp_grd hm
            refine rd_c (rd_rI0 (rd_nil (rd_int (rd_var rfl (rd_rI c106 (rd_gs (rd_var rfl (rd_var rfl (rd_set h101 rfl (wp_bind hm) fun t107 H108 g109 h110 hm => ?_)))))))))
            have h33 := Ls.g1 g109 ne48 h33
            have g0 := Gr.loc g0 nw49 g109
            have gl67 := Gr.at1 gl67 (by simp) g109
            have gl94 := Gr.at1 gl94 (by simp) g109
            refine rd_nx ?_
            refine rd_if (rd_T (rd_op (rd_op (rd_var rfl (rd_var rfl (ix_L (Ls.q h110) (wp_bind hm) fun t111 v112 h113 hm => ?_))))))
            obtain rfl := h113
            refine rd_c (rd_rI0 (rd_kB ?_))
            refine iteB (fun e114 => ?_) (fun e114 => ?_)
            · have hm := ifT e114 (wp_iteB hm)
              refine rd_asg (rd_op (rd_var rfl (rd_c (rd_rI0 (rd_gn ?_)))))
              exact hm _ _ ⟨_, rfl, gl94, h110⟩
            have hm := ifF e114 (wp_iteB hm)
            exact rd_next (hm _ _ ⟨_, rfl, gl94, h110⟩)
          have hm := ifF e102 (wp_iteB hm)
          exact rd_next (hm _ _ ⟨_, rfl, gl94, h101⟩)
        obtain ⟨o116, rfl, g115, h117⟩ := hr86
        have h33 := Ls.gA g115 (nin1 ne48 nin0) h33
        have g0 := Gr.many g0 (all1 ((.inr nw49)) all0) g115
        have gl67 := Gr.many gl67 (all1 ((.inl (by simp))) all0) g115
        exact hm _ _ ⟨_, _, _, rfl, gl67, h117⟩
      have hm := ifF e80 (wp_iteB hm)
      exact rd_next (hm _ _ ⟨_, _, _, rfl, gl67, h74⟩)
    obtain ⟨o119, o121, o122, rfl, g118, h120⟩ := hr55
    have h33 := Ls.gA g118 (nin1 ne48 nin0) h33
    have g0 := Gr.many g0 (all1 ((.inr nw49)) all0) g118
    refine rd_ret (rd_cb (rd_cons (rd_var rfl (rd_nil (tup_of_L (K := K) (Ls.q h120) fun v123 H124 g125 h126 => ?_)))))
    have h33 := Ls.g0 g125 h33
    have h120 := Ls.g0 g125 h120
    have g0 := g0.of0' g125
    exact hm _ _ g0 h126 h33

abbrev s__law_pair : Stmt := topS 55
abbrev n__law_pair : List Str := ["state", "p", "n"]
theorem sc__law_pair : FnScope n__law_pair ["state"] (defScope s__law_pair) := ⟨rfl, rfl, rfl, by decide +kernel, rfl, by decide +kernel, by decide +kernel⟩
def m__law_pair (a_state : (List Int)) : R ((Int × (List Int)) × (List Int)) :=
  (m__law_take a_state (5 : Int)).bind fun t8 => (getL ([(2 : Int), (2 : Int), (3 : Int), (3 : Int), (5 : Int)]) t8.1).bind fun t12 => (m__law_take t8.2 (2 : Int)).bind fun t15 => (if (decide (t12 = (2 : Int))) = true then ((m__law_take t15.2 (3 : Int)).bind fun t27 => R.ok (t27.2, ((1 : Int) + t27.1))) else (R.ok (t15.2, ((1 : Int) + t15.1)))).bind fun s22 => (m__law_modulus s22.1 t12 s22.2).bind fun t33 => R.ok ((t12, t33.1), t33.2)
def sp__law_pair (K : PySem.W.Frag) : Sp := fun vs H Q _ => ∃ (a_state : (List Int)) (p_state : Addr), vs = [.ref p_state] ∧ Ls rI H p_state a_state ∧ wp (m__law_pair a_state) (fun r => ∀ v H', Gr [p_state] H H' → (rP K rI (rT K rI)) H' r.1 v → Ls rI H' p_state r.2 → Q v H') (fun _ => False)
theorem ok__law_pair {P : Program} {w : World} {K : PySem.W.Frag} {mg : Str → Option Value} {base : Heap} {f : Addr} {fd : FuncData} (F : Fun K "_law_pair" "_law_pair" s__law_pair f fd) (c__law_take : Cal P w K mg base CX0 1 "_law_take" ["state", "m"] (sp__law_take K)) (c__law_modulus : Cal P w K mg base CX0 2 "_law_modulus" ["state", "p", "n"] (sp__law_modulus K)) : FnOk P w K mg base CX0 3 f fd ["state"] (sp__law_pair K) := by
  obtain ⟨f__law_take, fd__law_take, G__law_take, g__law_take, k__law_take, b__law_take⟩ := c__law_take
  obtain ⟨f__law_modulus, fd__law_modulus, G__law_modulus, g__law_modulus, k__law_modulus, b__law_modulus⟩ := c__law_modulus
  refine F.ok sc__law_pair (fun vs H Q E h => ?_) (fun cdv A outer s H0 vs Q E hr h => ?_)
  · obtain ⟨a_state, p_state, rfl, h_state, hm⟩ := h
    rfl
  · obtain ⟨a_state, p_state, rfl, h_state, hm⟩ := h
    have hm : wp (m__law_pair a_state) _ _ := hm
    unfold m__law_pair at hm
    refine ⟨_, (pss_cons (ps_set (i := 1) sc__law_pair.nd rfl (Or.inl rfl) (pe_ix (ix_listK (K := K) rfl) (pe_lst (pa_cons pe_int (pa_cons pe_int (pa_cons pe_int (pa_cons pe_int (pa_cons pe_int pa_nil)))))) (pe_call G__law_take (hr.mono (by decide)) (by rfl) g__law_take k__law_take b__law_take .nil pass0 (pa_cons (pv 0) (pa_cons pe_int pa_nil))) (fun _ _ => rfl))) (pss_cons (ps_set (i := 2) sc__law_pair.nd rfl (Or.inl rfl) (pe_op op_add pe_int (pe_call G__law_take (hr.mono (by decide)) (by rfl) g__law_take k__law_take b__law_take .nil pass0 (pa_cons (pv 0) (pa_cons pe_int pa_nil))))) (pss_cons (ps_if (pt_cmpR op_eqI (pv 1) pe_int (nomark _)) (pss_one (ps_set (i := 2) sc__law_pair.nd rfl (Or.inl rfl) (pe_op op_add pe_int (pe_call G__law_take (hr.mono (by decide)) (by rfl) g__law_take k__law_take b__law_take .nil pass0 (pa_cons (pv 0) (pa_cons pe_int pa_nil)))))) pss_nil) (pss_one (ps_ret (pe_tup (pa_cons (pv 1) (pa_cons (pe_call G__law_modulus (hr.mono (by decide)) (by rfl) g__law_modulus k__law_modulus b__law_modulus .nil pass0 (pa_cons (pv 0) (pa_cons (pv 1) (pa_cons (pv 2) pa_nil)))) pa_nil)))))))), ?_⟩
    have g0 := Gr.refl (A := [p_state]) H0
    refine rd_seq (rd_asg (rd_op (rd_lst (rd_cons (rd_c (rd_cons (rd_c (rd_cons (rd_c (rd_cons (rd_c (rd_cons (rd_c (rd_nil (mk_L (r := rI) (xs := [(2 : Int), (2 : Int), (3 : Int), (3 : Int), (5 : Int)]) (.cons rfl (.cons rfl (.cons rfl (.cons rfl (.cons rfl .nil))))) (by show 5 ≤ sizeLine; decide) fun p1 H2 n3 g4 h5 => ?_)))))))))))))))
    have ne6 : p_state ≠ p1 := Ls.ne h_state n3
    have nw7 := Gr.free g0 n3
    have h_state := Ls.g0 g4 h_state
    have g0 := g0.of0' g4
    refine rd_call (rd_cons (rd_var rfl (rd_cons (rd_c (rd_nil ⟨_, _, _, rfl, h_state, wp_imp (wp_bind hm) (fun t8 hm H9 g10 h11 => ?_) (fun _ e => e)⟩)))))
    have h5 := Ls.g1 g10 (Ne.symm ne6) h5
    have g0 := Gr.at1 g0 (by simp) g10
    refine ix_L (Ls.q h5) (wp_bind hm) fun t12 v13 h14 hm => ?_
    obtain rfl := h14
    refine rd_gn ?_
    refine rd_nx ?_
    refine rd_seq (rd_asg (rd_op (rd_c (rd_call (rd_cons (rd_var rfl (rd_cons (rd_c (rd_nil ⟨_, _, _, rfl, h11, wp_imp (wp_bind hm) (fun t15 hm H16 g17 h18 => ?_) (fun _ e => e)⟩)))))))))
    have g0 := Gr.at1 g0 (by simp) g17
    refine rd_rI0 (rd_gn ?_)
    refine rd_nx ?_
    refine seq_join (t := tIfS _ _ _) (wp_bind hm) (fun (s : (List Int) × Int) (σ : L2.St) (H : Hp) => σ = [some (.ref p_state), some (.int t12), some (.int s.2)] ∧ Gr [p_state] H16 H ∧ Ls rI H p_state s.1) (fun N20 hN21 hm => ?_) (fun s22 σ H23 hr24 hm => ?_)
    · have gl25 := Gr.refl (A := [p_state]) H16
      refine rd_if (rd_T (rd_op (rd_var rfl (rd_c (rd_rI0 (rd_kB ?_))))))
      refine iteB (fun e26 => ?_) (fun e26 => ?_)
      · have hm := ifT e26 (wp_iteB hm)
        refine rd_asg (rd_op (rd_c (rd_call (rd_cons (rd_var rfl (rd_cons (rd_c (rd_nil ⟨_, _, _, rfl, h18, wp_imp (wp_bind hm) (fun t27 hm H28 g29 h30 => ?_) (fun _ e => e)⟩))))))))
        have g0 := Gr.at1 g0 (by simp) g29
        have gl25 := Gr.at1 gl25 (by simp) g29
        refine rd_rI0 (rd_gn ?_)
        exact hN21 _ _ _ ⟨rfl, gl25, h30⟩ hm
      have hm := ifF e26 (wp_iteB hm)
      exact rd_next (hN21 _ _ _ ⟨rfl, gl25, h18⟩ hm)
    obtain ⟨rfl, g31, h32⟩ := hr24
    have g0 := Gr.many g0 (all1 ((.inl (by simp))) all0) g31
    refine rd_ret (rd_tup (rd_cons (rd_var rfl (rd_cons (rd_call (rd_cons (rd_var rfl (rd_cons (rd_var rfl (rd_cons (rd_var rfl (rd_nil ⟨_, _, _, _, rfl, h32, wp_imp (wp_bind hm) (fun t33 hm v36 H34 g35 h37 h38 => ?_) (fun _ e => e)⟩))))))))))))
    have g0 := Gr.at1 g0 (by simp) g35
    refine rd_nil (mk_P (K := K) (r := rI) (s := (rT K rI)) rfl h37 fun v39 H40 g41 h42 => ?_)
    have h38 := Ls.g0 g41 h38
    have g0 := g0.of0' g41
    exact hm _ _ g0 h42 h38

abbrev s_is_integer : Stmt := topS 7
abbrev n_is_integer : List Str := ["value"]
theorem sc_is_integer : FnScope n_is_integer ["value"] (defScope s_is_integer) := ⟨rfl, rfl, rfl, by decide +kernel, rfl, by decide +kernel, by decide +kernel⟩
def m_is_integer (a_value : V) : R Bool :=
  (andR (grd (scalV a_value = true) <| R.ok (isIntV a_value)) (grd (scalV a_value = true) <| R.ok (!(isBoolV a_value)))).bind fun t7 => R.ok t7
def sp_is_integer (K : PySem.W.Frag) : Sp := fun vs H Q _ => ∃ (a_value : V), vs = [a_value] ∧ wp (m_is_integer a_value) (fun r => ∀ H', Gr [] H H' → Q (.bl r) H') (fun _ => False)
theorem ok_is_integer {P : Program} {w : World} {K : PySem.W.Frag} {mg : Str → Option Value} {base : Heap} {f : Addr} {fd : FuncData} (F : Fun K "is_integer" "is_integer" s_is_integer f fd) (z_isinstance : mg "isinstance" = none) (z_int : mg "int" = none) (z_bool : mg "bool" = none) : FnOk P w K mg base CX0 1 f fd ["value"] (sp_is_integer K) := by
  refine F.ok sc_is_integer (fun vs H Q E h => ?_) (fun cdv A outer s H0 vs Q E hr h => ?_)
  · obtain ⟨a_value, rfl, hm⟩ := h
    rfl
  · obtain ⟨a_value, rfl, hm⟩ := h
    have hm : wp (m_is_integer a_value) _ _ := hm
    unfold m_is_integer at hm
    refine ⟨_, (pss_one (ps_ret (pe_and (pe_callB (isiK (K := K) rfl) (by rfl) z_isinstance (by decide +kernel) (pa_cons (pv 0) (pa_cons (pe_bltn (by rfl) z_int (by decide +kernel) (show L2.RelV (.ty "int") (.type "int") from rfl)) pa_nil))) (pe_one (pe_not (pe_callB (isiK (K := K) rfl) (by rfl) z_isinstance (by decide +kernel) (pa_cons (pv 0) (pa_cons (pe_bltn (by rfl) z_bool (by decide +kernel) (show L2.RelV (.ty "bool") (.type "bool") from rfl)) pa_nil)))))))), ?_⟩
    have g0 := Gr.refl (A := []) H0
    refine rd_ret ((ev_andV (fun Q hm => by
        have gb1 := Gr.refl (A := []) H0
        obtain ⟨c2, hm⟩ := wp_grd hm
        exact rd_cb (rd_cons (rd_var rfl (rd_cons (rd_c (rd_nil (isi_intV c2 (hm _ _ gb1 rfl)))))))) (fun H3 g4 Q hm => by
        have g0 := g0.of0' g4
        have gb5 := Gr.refl (A := []) H3
        obtain ⟨c6, hm⟩ := wp_grd hm
        exact rd_notV (rd_cb (rd_cons (rd_var rfl (rd_cons (rd_c (rd_nil (isi_boolV c6 (rd_kN (hm _ _ gb5 rfl))))))))))) _ (wp_imp (wp_bind hm) (fun t7 hm v10 H8 g9 h11 => ?_) (fun _ e => e)))
    obtain rfl := h11
    have g0 := g0.of0' g9
    exact hm _ g0

abbrev s_least_divisor : Stmt := topS 9
abbrev n_least_divisor : List Str := ["n", "start", "candidate"]
theorem sc_least_divisor : FnScope n_least_divisor ["n", "start"] (defScope s_least_divisor) := ⟨rfl, rfl, rfl, by decide +kernel, rfl, by decide +kernel, by decide +kernel⟩
def m_least_divisor_b1 (a_n : Int) (s8 : Int) : R Bool :=
  grd (CMul s8 s8) <| R.ok (decide ((s8 * s8) ≤ a_n))
def m_least_divisor_b2 (a_n : Int) (s8 : Int) : R (Lp (Int) (Int)) :=
  grd (0 < s8) <| if (decide ((a_n % s8) = (0 : Int))) = true then (R.ok (Lp.rt s8)) else (((R.ok (decide (s8 = (2 : Int)))).bind fun b => if b = true then R.ok (3 : Int) else R.ok (s8 + (2 : Int))).bind fun t29 => R.ok (Lp.nx t29))
def m_least_divisor (a_n : Int) (a_start : Int) : R Int :=
  (whileL (m_least_divisor_b1 a_n) (m_least_divisor_b2 a_n) 100000 a_start).bind fun o => Le.thn o (fun s4 => R.ok a_n) (fun r => R.ok r)
def sp_least_divisor (K : PySem.W.Frag) : Sp := fun vs H Q _ => ∃ (a_n : Int) (a_start : Int), vs = [(.int a_n), (.int a_start)] ∧ wp (m_least_divisor a_n a_start) (fun r => ∀ H', Gr [] H H' → Q (.int r) H') (fun _ => False)
theorem ok_least_divisor {P : Program} {w : World} {K : PySem.W.Frag} {mg : Str → Option Value} {base : Heap} {f : Addr} {fd : FuncData} (F : Fun K "least_divisor" "least_divisor" s_least_divisor f fd) : FnOk P w K mg base CX0 1 f fd ["n", "start"] (sp_least_divisor K) := by
  refine F.ok sc_least_divisor (fun vs H Q E h => ?_) (fun cdv A outer s H0 vs Q E hr h => ?_)
  · obtain ⟨a_n, a_start, rfl, hm⟩ := h
    rfl
  · obtain ⟨a_n, a_start, rfl, hm⟩ := h
    have hm : wp (m_least_divisor a_n a_start) _ _ := hm
    unfold m_least_divisor at hm
    refine ⟨_, (pss_cons (ps_set (i := 2) sc_least_divisor.nd rfl (Or.inl rfl) (pv 1)) (pss_cons (ps_while PassesOwn.never (pt_cmpR op_le (pe_op op_mul (pv 2) (pv 2)) (pv 0) (nomark _)) (pss_cons (ps_if (pt_cmpR op_eqI (pe_op op_mod (pv 0) (pv 2)) pe_int (nomark _)) (pss_one (ps_ret (pv 2))) pss_nil) (pss_one (ps_set (i := 2) sc_least_divisor.nd rfl (Or.inl rfl) (pe_ifExp (pt_cmpR op_eqI (pv 2) pe_int (nomark _)) pe_int (pe_op op_add (pv 2) pe_int)))))) (pss_one (ps_ret (pv 0))))), ?_⟩
    have g0 := Gr.refl (A := []) H0
    refine rd_seq (rd_asg (rd_var rfl (rd_gn ?_)))
    refine rd_nx ?_
    refine seq_joinL (t := tWhile _ _) (wp_le hm) (fun (s : Int) (σ : L2.St) (H : Hp) => σ = [some (.int a_n), some (.int a_start), some (.int s)] ∧ Gr [] H0 H) (fun N2 hm => ?_) (fun s4 σ H5 hr6 hm => ?_)
    · have gl7 := Gr.refl (A := []) H0
      refine whl_L (fun (s : Int) (σ : L2.St) (H : Hp) => σ = [some (.int a_n), some (.int a_start), some (.int s)] ∧ Gr [] H0 H) (by exact wp_imp hm (fun o ho => leP_imp ho (fun s hz σ' H' hr => hz σ' H' hr) (fun _ h => h)) (fun _ e => e)) ⟨rfl, gl7⟩ (fun s8 σ H9 N11 W12 m13 hW14 hr10 hm => ?_)
      unfold m_least_divisor_b1 at hm
      obtain ⟨rfl, g17⟩ := hr10
      have g0 := Gr.of0' g0 g17
      have gl7 := Gr.of0' gl7 g17
      obtain ⟨c18, hm⟩ := wp_grd hm
      refine rd_T (rd_op (rd_op (rd_var rfl (rd_var rfl (rd_rI (c18) (rd_var rfl (rd_rI0 (rd_kB ?_))))))))
      refine iteB' (fun e19 => ?_) (fun e19 => ?_)
      · exact ifF e19 hm _ _ ⟨rfl, gl7⟩
      have hm := ifT e19 hm
      unfold m_least_divisor_b2 at hm
      refine ⟨N11, hW14, ?_⟩
      obtain ⟨c20, hm⟩ := wp_grd hm
      refine rd_seq (rd_if (rd_T (rd_op (rd_op (rd_var rfl (rd_var rfl (rd_rI c20 (rd_c (rd_rI0 (rd_kB ?_))))))))))
      refine iteB (fun e21 => ?_) (fun e21 => ?_)
      · have hm := ifT e21 (wp_iteB hm)
        exact rd_ret (rd_var rfl (hm _ g0))
      have hm := ifF e21 (wp_iteB hm)
      refine rd_next (rd_nx ?_)
      refine rd_asg ((ev_if (r := rI) (fun Q hm => by
          have gb22 := Gr.refl (A := []) H9
          exact rd_T (rd_op (rd_var rfl (rd_c (rd_rI0 (rd_kB (hm _ gb22))))))) (fun H23 g24 Q hm => by
          have g0 := g0.of0' g24
          have gl7 := gl7.of0' g24
          have gb25 := Gr.refl (A := []) H23
          exact rd_c (hm _ _ gb25 rfl)) (fun H26 g27 Q hm => by
          have g0 := g0.of0' g27
          have gl7 := gl7.of0' g27
          have gb28 := Gr.refl (A := []) H26
          exact rd_op (rd_var rfl (rd_c (rd_rI0 (hm _ _ gb28 rfl)))))) _ (wp_imp (wp_bind hm) (fun t29 hm v30 H31 g32 h33 => ?_) (fun _ e => e)))
      have g0 := g0.of0' g32
      have gl7 := gl7.of0' g32
      obtain rfl := h33
      refine rd_gn ?_
      exact hm _ _ ⟨rfl, gl7⟩
    obtain ⟨rfl, g34⟩ := hr6
    have g0 := Gr.of0' g0 g34
    exact rd_ret (rd_var rfl (hm _ g0))

abbrev s_is_prime : Stmt := topS 8
abbrev n_is_prime : List Str := ["n"]
theorem sc_is_prime : FnScope n_is_prime ["n"] (defScope s_is_prime) := ⟨rfl, rfl, rfl, by decide +kernel, rfl, by decide +kernel, by decide +kernel⟩
def m_is_prime (a_n : Int) : R Bool :=
  (andR (R.ok (decide ((1 : Int) < a_n))) ((m_least_divisor a_n (2 : Int)).bind fun t5 => R.ok (decide (t5 = a_n)))).bind fun t8 => R.ok t8
def sp_is_prime (K : PySem.W.Frag) : Sp := fun vs H Q _ => ∃ (a_n : Int), vs = [(.int a_n)] ∧ wp (m_is_prime a_n) (fun r => ∀ H', Gr [] H H' → Q (.bl r) H') (fun _ => False)
theorem ok_is_prime {P : Program} {w : World} {K : PySem.W.Frag} {mg : Str → Option Value} {base : Heap} {f : Addr} {fd : FuncData} (F : Fun K "is_prime" "is_prime" s_is_prime f fd) (c_least_divisor : Cal P w K mg base CX0 1 "least_divisor" ["n", "start"] (sp_least_divisor K)) : FnOk P w K mg base CX0 2 f fd ["n"] (sp_is_prime K) := by
  obtain ⟨f_least_divisor, fd_least_divisor, G_least_divisor, g_least_divisor, k_least_divisor, b_least_divisor⟩ := c_least_divisor
  refine F.ok sc_is_prime (fun vs H Q E h => ?_) (fun cdv A outer s H0 vs Q E hr h => ?_)
  · obtain ⟨a_n, rfl, hm⟩ := h
    rfl
  · obtain ⟨a_n, rfl, hm⟩ := h
    have hm : wp (m_is_prime a_n) _ _ := hm
    unfold m_is_prime at hm
    refine ⟨_, (pss_one (ps_ret (pe_and (pe_cmpR op_gt (pv 0) pe_int (nomark _)) (pe_one (pe_cmpR op_eqI (pe_call G_least_divisor (hr.mono (by decide)) (by rfl) g_least_divisor k_least_divisor b_least_divisor .nil pass0 (pa_cons (pv 0) (pa_cons pe_int pa_nil))) (pv 0) (nomark _)))))), ?_⟩
    have g0 := Gr.refl (A := []) H0
    refine rd_ret ((ev_andV (fun Q hm => by
        have gb1 := Gr.refl (A := []) H0
        exact rd_op (rd_var rfl (rd_c (rd_rI0 (hm _ _ gb1 rfl))))) (fun H2 g3 Q hm => by
        have g0 := g0.of0' g3
        have gb4 := Gr.refl (A := []) H2
        refine rd_op (rd_call (rd_cons (rd_var rfl (rd_cons (rd_c (rd_nil ⟨_, _, rfl, wp_imp (wp_bind hm) (fun t5 hm H6 g7 => ?_) (fun _ e => e)⟩))))))
        have g0 := g0.of0' g7
        have gb4 := gb4.of0' g7
        exact rd_var rfl (rd_rI0 (hm _ _ gb4 rfl)))) _ (wp_imp (wp_bind hm) (fun t8 hm v11 H9 g10 h12 => ?_) (fun _ e => e)))
    obtain rfl := h12
    have g0 := g0.of0' g10
    exact hm _ g0

abbrev s_power_within : Stmt := topS 15
abbrev n_power_within : List Str := ["a", "k", "limit", "power", "_"]
theorem sc_power_within : FnScope n_power_within ["a", "k", "limit"] (defScope s_power_within) := ⟨rfl, rfl, rfl, by decide +kernel, rfl, by decide +kernel, by decide +kernel⟩
def m_power_within_b1 (a_a : Int) (a_limit : Int) (s9 : Int) (x15 : Int) : R (Lp (Int) ((Option Int))) :=
  grd (CMul s9 a_a) <| if (decide (a_limit < (s9 * a_a))) = true then (R.ok (Lp.rt (none : (Option Int)))) else (R.ok (Lp.nx (s9 * a_a)))
def m_power_within (a_a : Int) (a_k : Int) (a_limit : Int) : R (Option Int) :=
  (grd (rgOk a_k) <| loopR (m_power_within_b1 a_a a_limit) (1 : Int) (rng 0 (a_k).toNat)).bind fun o => Le.thn o (fun s4 => R.ok (some s4)) (fun r => R.ok r)
def sp_power_within (K : PySem.W.Frag) : Sp := fun vs H Q _ => ∃ (a_a : Int) (a_k : Int) (a_limit : Int), vs = [(.int a_a), (.int a_k), (.int a_limit)] ∧ wp (m_power_within a_a a_k a_limit) (fun r => ∀ v H', Gr [] H H' → (rO rI) H' r v → Q v H') (fun _ => False)
theorem ok_power_within {P : Program} {w : World} {K : PySem.W.Frag} {mg : Str → Option Value} {base : Heap} {f : Addr} {fd : FuncData} (F : Fun K "power_within" "power_within" s_power_within f fd) (z_range : mg "range" = none) : FnOk P w K mg base CX0 1 f fd ["a", "k", "limit"] (sp_power_within K) := by
  refine F.ok sc_power_within (fun vs H Q E h => ?_) (fun cdv A outer s H0 vs Q E hr h => ?_)
  · obtain ⟨a_a, a_k, a_limit, rfl, hm⟩ := h
    rfl
  · obtain ⟨a_a, a_k, a_limit, rfl, hm⟩ := h
    have hm : wp (m_power_within a_a a_k a_limit) _ _ := hm
    unfold m_power_within at hm
    refine ⟨_, (pss_cons (ps_set (i := 3) sc_power_within.nd rfl (Or.inl rfl) pe_int) (pss_cons (ps_for PassesOwn.never rfl (pi_range1 (by rfl) z_range (pa_cons (pv 1) pa_nil)) (pg_name (i := 4) sc_power_within.nd rfl (Or.inl rfl)) (pss_cons (ps_set (i := 3) sc_power_within.nd rfl (Or.inl rfl) (pe_op op_mul (pv 3) (pv 0))) (pss_one (ps_if (pt_cmpR op_gt (pv 3) (pv 2) (nomark _)) (pss_one (ps_ret pe_non)) pss_nil)))) (pss_one (ps_ret (pv 3))))), ?_⟩
    have g0 := Gr.refl (A := []) H0
    refine rd_seq (rd_asg (rd_c (rd_gn ?_)))
    refine rd_nx ?_
    refine seq_joinL (t := tFor _ _ _) (wp_le hm) (fun (s : Int) (σ : L2.St) (H : Hp) => ∃ (o8 : Option V), σ = [some (.int a_a), some (.int a_k), some (.int a_limit), some (.int s), o8] ∧ Gr [] H0 H) (fun N2 hm => ?_) (fun s4 σ H5 hr6 hm => ?_)
    · have gl7 := Gr.refl (A := []) H0
      obtain ⟨c13, hm⟩ := wp_grd hm
      have gl14 := Gr.refl (A := []) H0
      refine rd_for (rd_r1 (rd_cons (rd_var rfl (rd_nil ⟨_, rfl, c13.1, c13.2, for_rngL (lo := 0) (n := (a_k).toNat) (fun (s : Int) (σ : L2.St) (H : Hp) => ∃ (o8 : Option V), σ = [some (.int a_a), some (.int a_k), some (.int a_limit), some (.int s), o8] ∧ Gr [] H0 H) (by exact wp_imp hm (fun o ho => leP_imp ho (fun s hz σ' H' hr => hz σ' H' hr) (fun _ h => h)) (fun _ e => e)) ⟨_, rfl, gl14⟩ (fun x15 s9 σ H10 N12 hr11 hm => ?_)⟩))))
      unfold m_power_within_b1 at hm
      obtain ⟨o20, rfl, g19⟩ := hr11
      have g0 := Gr.of0' g0 g19
      have gl14 := Gr.of0' gl14 g19
      obtain ⟨c21, hm⟩ := wp_grd hm
      refine rd_gn (rd_seq (rd_asg (rd_op (rd_var rfl (rd_var rfl (rd_rI (c21) (rd_gn ?_)))))))
      refine rd_nx ?_
      refine rd_if (rd_T (rd_op (rd_var rfl (rd_var rfl (rd_rI0 (rd_kB ?_))))))
      refine iteB (fun e22 => ?_) (fun e22 => ?_)
      · have hm := ifT e22 (wp_iteB hm)
        have h23 := (show rO rI H10 none .non from rfl)
        exact rd_ret (rd_c (hm _ _ g0 h23))
      have hm := ifF e22 (wp_iteB hm)
      exact rd_next (hm _ _ ⟨_, rfl, gl14⟩)
    obtain ⟨o25, rfl, g24⟩ := hr6
    have g0 := Gr.of0' g0 g24
    have h26 := (show rO rI H5 (some s4) (.int s4) from ⟨(fun z => V.noConfusion z), rfl⟩)
    exact rd_ret (rd_var rfl (hm _ _ g0 h26))

abbrev s_cofactors : Stmt := topS 12
abbrev n_cofactors : List Str := ["a", "b", "g", "u", "v", "rest", "rest_u", "rest_v", "quotient"]
theorem sc_cofactors : FnScope n_cofactors ["a", "b"] (defScope s_cofactors) := ⟨rfl, rfl, rfl, by decide +kernel, rfl, by decide +kernel, by decide +kernel⟩
def m_cofactors_b1 (s9 : Int × Int × Int × Int × Int × Int) : R Bool :=
  R.ok (!decide (s9.2.2.2.1 = (0 : Int)))
def m_cofactors_b2 (s9 : Int × Int × Int × Int × Int × Int) : R (Int × Int × Int × Int × Int × Int) :=
  grd (CDivN s9.1 s9.2.2.2.1) <| grd (CMul (Int.fdiv s9.1 s9.2.2.2.1) s9.2.2.2.1) <| grd (CMul (Int.fdiv s9.1 s9.2.2.2.1) s9.2.2.2.2.1) <| grd (CMul (Int.fdiv s9.1 s9.2.2.2.1) s9.2.2.2.2.2) <| R.ok (s9.2.2.2.1, s9.2.2.2.2.1, s9.2.2.2.2.2, (s9.1 - ((Int.fdiv s9.1 s9.2.2.2.1) * s9.2.2.2.1)), (s9.2.1 - ((Int.fdiv s9.1 s9.2.2.2.1) * s9.2.2.2.2.1)), (s9.2.2.1 - ((Int.fdiv s9.1 s9.2.2.2.1) * s9.2.2.2.2.2)))
def m_cofactors (a_a : Int) (a_b : Int) : R (Int × Int × Int) :=
  (whileR m_cofactors_b1 m_cofactors_b2 100000 (a_a, (1 : Int), (0 : Int), a_b, (0 : Int), (1 : Int))).bind fun s4 => if (decide (s4.1 < (0 : Int))) = true then (R.ok ((-s4.1), (-s4.2.1), (-s4.2.2.1))) else (R.ok (s4.1, s4.2.1, s4.2.2.1))
def sp_cofactors (K : PySem.W.Frag) : Sp := fun vs H Q _ => ∃ (a_a : Int) (a_b : Int), vs = [(.int a_a), (.int a_b)] ∧ wp (m_cofactors a_a a_b) (fun r => ∀ v H', Gr [] H H' → (rP3 K rI rI rI) H' r v → Q v H') (fun _ => False)
theorem ok_cofactors {P : Program} {w : World} {K : PySem.W.Frag} {mg : Str → Option Value} {base : Heap} {f : Addr} {fd : FuncData} (F : Fun K "cofactors" "cofactors" s_cofactors f fd) : FnOk P w K mg base CX0 1 f fd ["a", "b"] (sp_cofactors K) := by
  refine F.ok sc_cofactors (fun vs H Q E h => ?_) (fun cdv A outer s H0 vs Q E hr h => ?_)
  · obtain ⟨a_a, a_b, rfl, hm⟩ := h
    rfl
  · obtain ⟨a_a, a_b, rfl, hm⟩ := h
    have hm : wp (m_cofactors a_a a_b) _ _ := hm
    unfold m_cofactors at hm
    refine ⟨_, (pss_cons (ps_par3 (i := 2) (j := 3) (l := 4) rfl sc_cofactors.nd rfl rfl rfl (by decide) (by decide) (by decide) rfl rfl rfl (pa_cons (pv 0) (pa_cons pe_int (pa_cons pe_int pa_nil))) (by rfl)) (pss_cons (ps_par3 (i := 5) (j := 6) (l := 7) rfl sc_cofactors.nd rfl rfl rfl (by decide) (by decide) (by decide) rfl rfl rfl (pa_cons (pv 1) (pa_cons pe_int (pa_cons pe_int pa_nil))) (by rfl)) (pss_cons (ps_while PassesOwn.never (pt_cmpR op_neI (pv 5) pe_int (nomark _)) (pss_cons (ps_set (i := 8) sc_cofactors.nd rfl (Or.inl rfl) (pe_op op_fdivN (pv 2) (pv 5))) (pss_cons (ps_par (i := 2) (j := 5) rfl sc_cofactors.nd rfl rfl (by decide) rfl rfl (pa_cons (pv 5) (pa_cons (pe_op op_sub (pv 2) (pe_op op_mul (pv 8) (pv 5))) pa_nil)) (by rfl)) (pss_cons (ps_par (i := 3) (j := 6) rfl sc_cofactors.nd rfl rfl (by decide) rfl rfl (pa_cons (pv 6) (pa_cons (pe_op op_sub (pv 3) (pe_op op_mul (pv 8) (pv 6))) pa_nil)) (by rfl)) (pss_one (ps_par (i := 4) (j := 7) rfl sc_cofactors.nd rfl rfl (by decide) rfl rfl (pa_cons (pv 7) (pa_cons (pe_op op_sub (pv 4) (pe_op op_mul (pv 8) (pv 7))) pa_nil)) (by rfl))))))) (pss_cons (ps_if (pt_cmpR op_lt (pv 2) pe_int (nomark _)) (pss_one (ps_ret (pe_tup (pa_cons (pe_un un_neg (pv 2)) (pa_cons (pe_un un_neg (pv 3)) (pa_cons (pe_un un_neg (pv 4)) pa_nil)))))) pss_nil) (pss_one (ps_ret (pe_tup (pa_cons (pv 2) (pa_cons (pv 3) (pa_cons (pv 4) pa_nil)))))))))), ?_⟩
    have g0 := Gr.refl (A := []) H0
    refine rd_seq (rd_par3 (rd_cons (rd_var rfl (rd_cons (rd_c (rd_cons (rd_c (rd_nil (rd_kp3 ?_)))))))))
    refine rd_nx ?_
    refine rd_seq (rd_par3 (rd_cons (rd_var rfl (rd_cons (rd_c (rd_cons (rd_c (rd_nil (rd_kp3 ?_)))))))))
    refine rd_nx ?_
    refine seq_join (t := tWhile _ _) (wp_bind hm) (fun (s : Int × Int × Int × Int × Int × Int) (σ : L2.St) (H : Hp) => ∃ (o8 : Option V), σ = [some (.int a_a), some (.int a_b), some (.int s.1), some (.int s.2.1), some (.int s.2.2.1), some (.int s.2.2.2.1), some (.int s.2.2.2.2.1), some (.int s.2.2.2.2.2), o8] ∧ Gr [] H0 H) (fun N2 hN3 hm => ?_) (fun s4 σ H5 hr6 hm => ?_)
    · have gl7 := Gr.refl (A := []) H0
      refine whl_R (fun (s : Int × Int × Int × Int × Int × Int) (σ : L2.St) (H : Hp) => ∃ (o8 : Option V), σ = [some (.int a_a), some (.int a_b), some (.int s.1), some (.int s.2.1), some (.int s.2.2.1), some (.int s.2.2.2.1), some (.int s.2.2.2.2.1), some (.int s.2.2.2.2.2), o8] ∧ Gr [] H0 H) (by exact wp_N hm (fun s σ' H' hr hz => hN3 s σ' H' hr hz)) ⟨_, rfl, gl7⟩ (fun s9 σ H10 N12 W13 m14 hW15 hr11 hm => ?_)
      unfold m_cofactors_b1 at hm
      obtain ⟨o19, rfl, g18⟩ := hr11
      have g0 := Gr.of0' g0 g18
      have gl7 := Gr.of0' gl7 g18
      refine rd_T (rd_op (rd_var rfl (rd_c (rd_rI0 (rd_kB ?_)))))
      refine iteB' (fun e20 => ?_) (fun e20 => ?_)
      · exact ifF e20 hm _ _ ⟨_, rfl, gl7⟩
      have hm := ifT e20 hm
      unfold m_cofactors_b2 at hm
      refine ⟨N12, hW15, ?_⟩
      obtain ⟨c21, hm⟩ := wp_grd hm
      refine rd_seq (rd_asg (rd_op (rd_var rfl (rd_var rfl (rd_rI c21 (rd_gn ?_))))))
      refine rd_nx ?_
      obtain ⟨c22, hm⟩ := wp_grd hm
      refine rd_seq (rd_par (rd_cons (rd_var rfl (rd_cons (rd_op (rd_var rfl (rd_op (rd_var rfl (rd_var rfl (rd_rI (c22) (rd_rI0 (rd_nil (rd_kp2 ?_)))))))))))))
      refine rd_nx ?_
      obtain ⟨c23, hm⟩ := wp_grd hm
      refine rd_seq (rd_par (rd_cons (rd_var rfl (rd_cons (rd_op (rd_var rfl (rd_op (rd_var rfl (rd_var rfl (rd_rI (c23) (rd_rI0 (rd_nil (rd_kp2 ?_)))))))))))))
      refine rd_nx ?_
      obtain ⟨c24, hm⟩ := wp_grd hm
      refine rd_par (rd_cons (rd_var rfl (rd_cons (rd_op (rd_var rfl (rd_op (rd_var rfl (rd_var rfl (rd_rI (c24) (rd_rI0 (rd_nil (rd_kp2 ?_))))))))))))
      exact hm _ _ ⟨_, rfl, gl7⟩
    obtain ⟨o26, rfl, g25⟩ := hr6
    have g0 := Gr.of0' g0 g25
    refine rd_seq (rd_if (rd_T (rd_op (rd_var rfl (rd_c (rd_rI0 (rd_kB ?_)))))))
    refine iteB (fun e27 => ?_) (fun e27 => ?_)
    · have hm := ifT e27 (wp_iteB hm)
      refine rd_ret (rd_tup (rd_cons (rd_un (rd_var rfl (rd_rU (rd_cons (rd_un (rd_var rfl (rd_rU (rd_cons (rd_un (rd_var rfl (rd_rU (rd_nil (mk_P3 (K := K) (r := rI) (s := rI) (t := rI) rfl rfl rfl fun v28 H29 g30 h31 => ?_)))))))))))))))
      have g0 := g0.of0' g30
      exact hm _ _ g0 h31
    have hm := ifF e27 (wp_iteB hm)
    refine rd_next (rd_nx ?_)
    refine rd_ret (rd_tup (rd_cons (rd_var rfl (rd_cons (rd_var rfl (rd_cons (rd_var rfl (rd_nil (mk_P3 (K := K) (r := rI) (s := rI) (t := rI) rfl rfl rfl fun v32 H33 g34 h35 => ?_)))))))))
    have g0 := g0.of0' g34
    exact hm _ _ g0 h35

abbrev s_inverse_modulo : Stmt := topS 17
abbrev n_inverse_modulo : List Str := ["a", "m", "g", "u", "_"]
theorem sc_inverse_modulo : FnScope n_inverse_modulo ["a", "m"] (defScope s_inverse_modulo) := ⟨rfl, rfl, rfl, by decide +kernel, rfl, by decide +kernel, by decide +kernel⟩
def m_inverse_modulo (a_a : Int) (a_m : Int) : R Int :=
  (noEr (m_cofactors a_a a_m)).bind fun t1 => if (!decide (t1.1 = (1 : Int))) = true then (R.er .zd) else (grd (0 < a_m) <| R.ok (t1.2.1 % a_m))
def sp_inverse_modulo (K : PySem.W.Frag) (C : Xc) : Sp := fun vs H Q E => ∃ (a_a : Int) (a_m : Int), vs = [(.int a_a), (.int a_m)] ∧ wp (m_inverse_modulo a_a a_m) (fun r => ∀ H', Gr [] H H' → Q (.int r) H') (XEr C [] H E)
theorem ok_inverse_modulo {P : Program} {w : World} {K : PySem.W.Frag} {mg : Str → Option Value} {base : Heap} {f : Addr} {fd : FuncData} {c_fault c_zd c_mal c_refu : Addr} (F : Fun K "inverse_modulo" "inverse_modulo" s_inverse_modulo f fd) (Xk_zd : Xk K mg "ZeroDivisor" c_zd) (c_cofactors : Cal P w K mg base CX0 1 "cofactors" ["a", "b"] (sp_cofactors K)) : FnOk P w K mg base (CX P w) 2 f fd ["a", "m"] (sp_inverse_modulo K (⟨some c_fault, some c_zd, some c_mal, some c_refu, none⟩ : Xc)) := by
  obtain ⟨f_cofactors, fd_cofactors, G_cofactors, g_cofactors, k_cofactors, b_cofactors⟩ := c_cofactors
  refine F.okX sc_inverse_modulo (fun vs H Q E h => ?_) (fun cdv A outer s H0 vs Q E hr h => ?_)
  · obtain ⟨a_a, a_m, rfl, hm⟩ := h
    rfl
  · obtain ⟨a_a, a_m, rfl, hm⟩ := h
    have hm : wp (m_inverse_modulo a_a a_m) _ _ := hm
    unfold m_inverse_modulo at hm
    refine ⟨_, (pss_cons (ps_asg (pe_call G_cofactors (hr.mono (by decide)) (by rfl) g_cofactors k_cofactors b_cofactors .nil pass0 (pa_cons (pv 0) (pa_cons (pv 1) pa_nil))) (pg_tup rfl (pgs_cons (pg_name (i := 2) sc_inverse_modulo.nd rfl (Or.inl rfl)) (pgs_cons (pg_name (i := 3) sc_inverse_modulo.nd rfl (Or.inl rfl)) (pgs_cons (pg_name (i := 4) sc_inverse_modulo.nd rfl (Or.inl rfl)) pgs_nil))))) (pss_cons (ps_if (pt_cmpR op_neI (pv 2) pe_int (nomark _)) (pss_one (ps_raise rfl (takes_of rfl rfl rfl rfl) (pmk_own PySem.F.excBase_ValueError Xk_zd.x Xk_zd.g Xk_zd.k (raises_own Xk_zd.b Xk_zd.t) (by rfl)))) pss_nil) (pss_one (ps_ret (pe_op op_mod (pv 3) (pv 1)))))), ?_⟩
    have g0 := Gr.refl (A := []) H0
    refine rd_seq (rd_asg (rd_call (rd_cons (rd_var rfl (rd_cons (rd_var rfl (rd_nil ⟨_, _, rfl, wp_imp (wp_bindN hm) (fun t1 hm v4 H2 g3 h5 => ?_) (fun _ e => e)⟩)))))))
    have g0 := g0.of0' g3
    obtain ⟨a6, x7, x8, x9, ea14, h10, h11, h12, h13⟩ := id h5
    obtain rfl := h11
    obtain rfl := h12
    obtain rfl := h13
    refine rd_gtE ea14 h10 rfl (rd_gc (rd_gn (rd_gc (rd_gn (rd_gc (rd_gn (rd_g0 ?_)))))))
    refine rd_nx ?_
    refine rd_seq (rd_if (rd_T (rd_op (rd_var rfl (rd_c (rd_rI0 (rd_kB ?_)))))))
    refine iteB (fun e15 => ?_) (fun e15 => ?_)
    · have hm := ifT e15 (wp_iteB hm)
      exact xe0_at hm rfl g0
    have hm := ifF e15 (wp_iteB hm)
    refine rd_next (rd_nx ?_)
    obtain ⟨c16, hm⟩ := wp_grd hm
    exact rd_ret (rd_op (rd_var rfl (rd_var rfl (rd_rI c16 (hm _ g0)))))

abbrev s_without_end : Stmt := topS 19
abbrev n_without_end : List Str := ["items", "zero", "length"]
theorem sc_without_end : FnScope n_without_end ["items", "zero"] (defScope s_without_end) := ⟨rfl, rfl, rfl, by decide +kernel, rfl, by decide +kernel, by decide +kernel⟩
def m_without_end_b1 (a_items : (List Int)) (a_zero : Int) (s8 : Int) : R Bool :=
  (andR (R.ok (decide ((0 : Int) < s8))) ((getL a_items (s8 - (1 : Int))).bind fun t22 => R.ok (decide (t22 = a_zero)))).bind fun t25 => R.ok t25
def m_without_end_b2 (s8 : Int) : R (Int) :=
  R.ok (s8 - (1 : Int))
def m_without_end (a_items : (List Int)) (a_zero : Int) : R (List Int) :=
  (whileR (m_without_end_b1 a_items a_zero) m_without_end_b2 100000 ((a_items).length : Int)).bind fun s4 => R.ok (cutT a_items none (some s4))
def sp_without_end (K : PySem.W.Frag) : Sp := fun vs H Q _ => ∃ (a_items : (List Int)) (p_items : Addr) (a_zero : Int), vs = [.ref p_items, (.int a_zero)] ∧ Ls rI H p_items a_items ∧ wp (m_without_end a_items a_zero) (fun r => ∀ v H', Gr [] H H' → (rT K rI) H' r v → Q v H') (fun _ => False)
theorem ok_without_end {P : Program} {w : World} {K : PySem.W.Frag} {mg : Str → Option Value} {base : Heap} {f : Addr} {fd : FuncData} (F : Fun K "without_end" "without_end" s_without_end f fd) (z_len : mg "len" = none) (z_tuple : mg "tuple" = none) : FnOk P w K mg base CX0 1 f fd ["items", "zero"] (sp_without_end K) := by
  refine F.ok sc_without_end (fun vs H Q E h => ?_) (fun cdv A outer s H0 vs Q E hr h => ?_)
  · obtain ⟨a_items, p_items, a_zero, rfl, h_items, hm⟩ := h
    rfl
  · obtain ⟨a_items, p_items, a_zero, rfl, h_items, hm⟩ := h
    have hm : wp (m_without_end a_items a_zero) _ _ := hm
    unfold m_without_end at hm
    refine ⟨_, (pss_cons (ps_set (i := 2) sc_without_end.nd rfl (Or.inl rfl) (pe_callB (lenK (K := K) rfl) (by rfl) z_len PySem.boot_len (pa_cons (pv 0) pa_nil))) (pss_cons (ps_while PassesOwn.never (PW.pt (pw_and (pt_cmpR op_gt (pv 2) pe_int (nomark _)) (pw_and1 (pt_cmpR op_eqI (pe_ix (ix_listK (K := K) rfl) (pv 0) (pe_op op_sub (pv 2) pe_int) (fun _ _ => rfl)) (pv 1) (nomark _))))) (pss_one (ps_set (i := 2) sc_without_end.nd rfl (Or.inl rfl) (pe_op op_sub (pv 2) pe_int)))) (pss_one (ps_ret (pe_callTy (tupleK (K := K) rfl) (by rfl) z_tuple (by decide +kernel) (pa_cons (pe_slice (sl_listK (K := K) rfl) (pv 0) po_none (po_some (pv 2))) pa_nil)))))), ?_⟩
    have g0 := Gr.refl (A := []) H0
    refine rd_seq (rd_asg (rd_cb (rd_cons (rd_var rfl (rd_nil (len_L (Ls.q h_items) (rd_gn ?_)))))))
    refine rd_nx ?_
    refine seq_join (t := tWhile _ _) (wp_bind hm) (fun (s : Int) (σ : L2.St) (H : Hp) => σ = [some (.ref p_items), some (.int a_zero), some (.int s)] ∧ Gr [] H0 H) (fun N2 hN3 hm => ?_) (fun s4 σ H5 hr6 hm => ?_)
    · have gl7 := Gr.refl (A := []) H0
      refine whl_R (fun (s : Int) (σ : L2.St) (H : Hp) => σ = [some (.ref p_items), some (.int a_zero), some (.int s)] ∧ Gr [] H0 H) (by exact wp_N hm (fun s σ' H' hr hz => hN3 s σ' H' hr hz)) ⟨rfl, gl7⟩ (fun s8 σ H9 N11 W12 m13 hW14 hr10 hm => ?_)
      unfold m_without_end_b1 at hm
      obtain ⟨rfl, g17⟩ := hr10
      have h_items := Ls.gA g17 nin0 h_items
      have g0 := Gr.of0' g0 g17
      have gl7 := Gr.of0' gl7 g17
      refine (ev_and (fun Q hm => by
          have gb18 := Gr.refl (A := []) H9
          exact rd_T (rd_op (rd_var rfl (rd_c (rd_rI0 (rd_kB (hm _ gb18))))))) (fun H19 g20 Q hm => by
          have h_items := Ls.g0 g20 h_items
          have g0 := g0.of0' g20
          have gl7 := gl7.of0' g20
          have gb21 := Gr.refl (A := []) H19
          refine rd_T (rd_op (rd_op (rd_var rfl (rd_op (rd_var rfl (rd_c (rd_rI0 (ix_L (Ls.q h_items) (wp_bind hm) fun t22 v23 h24 hm => ?_))))))))
          obtain rfl := h24
          exact rd_var rfl (rd_rI0 (rd_kB (hm _ gb21))))) _ (wp_imp (wp_bind hm) (fun t25 hm H26 g27 => ?_) (fun _ e => e))
      have h_items := Ls.g0 g27 h_items
      have g0 := g0.of0' g27
      have gl7 := gl7.of0' g27
      refine iteB' (fun e28 => ?_) (fun e28 => ?_)
      · exact ifF e28 hm _ _ ⟨rfl, gl7⟩
      have hm := ifT e28 hm
      unfold m_without_end_b2 at hm
      refine ⟨N11, hW14, ?_⟩
      refine rd_asg (rd_op (rd_var rfl (rd_c (rd_rI0 (rd_gn ?_)))))
      exact hm _ _ ⟨rfl, gl7⟩
    obtain ⟨rfl, g29⟩ := hr6
    have h_items := Ls.gA g29 nin0 h_items
    have g0 := Gr.of0' g0 g29
    refine rd_ret (rd_cb (rd_cons (rd_sl (rd_var rfl (rd_np (rd_part (rd_var rfl (rd_kI (cut_L (K := K) (Ls.q h_items) fun p30 H31 n32 g33 h34 => ?_)))))))))
    have ne35 : p_items ≠ p30 := Ls.ne h_items n32
    have nw36 := Gr.free g0 n32
    have h_items := Ls.g0 g33 h_items
    have g0 := g0.of0' g33
    refine rd_nil (tup_of_L (K := K) (Ls.q h34) fun v37 H38 g39 h40 => ?_)
    have h_items := Ls.g0 g39 h_items
    have g0 := g0.of0' g39
    exact hm _ _ g0 h40

abbrev s_trimmed : Stmt := topS 21
abbrev n_trimmed : List Str := ["row", "p", "item"]
theorem sc_trimmed : FnScope n_trimmed ["row", "p"] (defScope s_trimmed) := ⟨rfl, rfl, rfl, by decide +kernel, rfl, by decide +kernel, by decide +kernel⟩
def m_trimmed_b1 (a_p : Int) (s11 : List Int) (x12 : Int) : R (List Int) :=
  grd (0 < a_p) <| grd (lenLt s11) <| R.ok (s11 ++ [(x12 % a_p)])
def m_trimmed (a_row : (List Int)) (a_p : Int) : R (List Int) :=
  (foldR (m_trimmed_b1 a_p) ([]) a_row).bind fun s18 => (m_without_end s18 (0 : Int)).bind fun t31 => R.ok t31
def sp_trimmed (K : PySem.W.Frag) : Sp := fun vs H Q _ => ∃ (a_row : (List Int)) (p_row : Addr) (a_p : Int), vs = [.ref p_row, (.int a_p)] ∧ Ls rI H p_row a_row ∧ wp (m_trimmed a_row a_p) (fun r => ∀ v H', Gr [] H H' → (rT K rI) H' r v → Q v H') (fun _ => False)
theorem ok_trimmed {P : Program} {w : World} {K : PySem.W.Frag} {mg : Str → Option Value} {base : Heap} {f : Addr} {fd : FuncData} (F : Fun K "trimmed" "trimmed" s_trimmed f fd) (c_without_end : Cal P w K mg base CX0 1 "without_end" ["items", "zero"] (sp_without_end K)) : FnOk P w K mg base CX0 2 f fd ["row", "p"] (sp_trimmed K) := by
  obtain ⟨f_without_end, fd_without_end, G_without_end, g_without_end, k_without_end, b_without_end⟩ := c_without_end
  refine F.ok sc_trimmed (fun vs H Q E h => ?_) (fun cdv A outer s H0 vs Q E hr h => ?_)
  · obtain ⟨a_row, p_row, a_p, rfl, h_row, hm⟩ := h
    rfl
  · obtain ⟨a_row, p_row, a_p, rfl, h_row, hm⟩ := h
    have hm : wp (m_trimmed a_row a_p) _ _ := hm
    unfold m_trimmed at hm
    refine ⟨_, (pss_one (ps_ret (pe_call G_without_end (hr.mono (by decide)) (by rfl) g_without_end k_without_end b_without_end .nil pass0 (pa_cons (pe_lc (own := [("item", 2)]) (g := gName 2) (tt := tYes) rfl sc_trimmed.nd (pi_listK (K := K) (pv 0) rfl) (blkOk_by (own := [("item", 2)]) (N := n_trimmed) (sc := defScope s_trimmed) (by decide +kernel)) (fun _ _ _ _ _ => pg_name (i := 2) sc_trimmed.nd rfl (Or.inl rfl)) (fun _ _ _ _ _ => pts_nil) (fun _ _ _ _ _ => (pe_op op_mod (pv 2) (pv 1)))) (pa_cons pe_int pa_nil))))), ?_⟩
    have g0 := Gr.refl (A := []) H0
    obtain ⟨vs1, hl2, hp3⟩ := id (Ls.q h_row)
    refine rd_ret (rd_call (rd_cons (rd_lc (rd_il (rd_var rfl ⟨_, rfl, ⟨_, hl2⟩, fun p4 n5 => ?_⟩)))))
    have ne6 : p_row ≠ p4 := Ls.ne h_row n5
    have nw7 := Gr.free g0 n5
    refine lc_lst (r := rI) (H1 := H0) (fun (s : List Int) (H : Hp) => Gr [] H0 H ∧ Ls rI H p4 s) hp3 (wp_bind hm) ⟨Gr.new n5, ⟨[], upd_same, .nil⟩⟩ (fun _ _ hr => by obtain ⟨g, _⟩ := hr; exact g.lst nin0 hl2) (fun x12 v13 s11 H15 N16 hx14 hr17 hm => ?_) (fun s18 H19 hr20 hm => ?_)
    · unfold m_trimmed_b1 at hm
      obtain ⟨g21, h22⟩ := hr17
      have h_row := Ls.gA g21 nin0 h_row
      have g0 := Gr.of0' g0 g21
      have gl23 := g21
      obtain rfl := hx14
      obtain ⟨c24, hm⟩ := wp_grd hm
      obtain ⟨c25, hm⟩ := wp_grd hm
      refine rd_gn ⟨rfl, rd_yes (iteT (rd_op (rd_var rfl (rd_var rfl (rd_rI c24 (lc_add h22 rfl c25 fun H26 g27 h28 => ?_))))))⟩
      have h_row := Ls.g1 g27 ne6 h_row
      have g0 := Gr.loc g0 nw7 g27
      have gl23 := Gr.loc gl23 n5 g27
      exact hm _ ⟨gl23, h28⟩
    obtain ⟨g29, h30⟩ := hr20
    have h_row := Ls.gA g29 nin0 h_row
    have g0 := Gr.of0' g0 g29
    refine rd_cons (rd_c (rd_nil ⟨_, _, _, rfl, h30, wp_imp (wp_bind hm) (fun t31 hm v34 H32 g33 h35 => ?_) (fun _ e => e)⟩))
    have h_row := Ls.g0 g33 h_row
    have g0 := g0.of0' g33
    exact hm _ _ g0 h35

abbrev s_divide_rows : Stmt := topS 25
abbrev n_divide_rows : List Str := ["a", "b", "p", "factor", "rest", "places", "quotient", "at", "k", "item"]
theorem sc_divide_rows : FnScope n_divide_rows ["a", "b", "p"] (defScope s_divide_rows) := ⟨rfl, rfl, rfl, by decide +kernel, rfl, by decide +kernel, by decide +kernel⟩
def m_divide_rows_b1 (a_p : Int) (x45 : Int) (t62 : (List Int)) (s75 : (List Int)) (x85 : (Int × Int)) : R ((List Int)) :=
  (getL s75 (x45 + x85.1)).bind fun t102 => (getL t62 x45).bind fun t105 => grd (CMul t105 x85.2) <| grd (0 < a_p) <| (setL s75 (x45 + x85.1) ((t102 - (t105 * x85.2)) % a_p)).bind fun t110 => R.ok t110
def m_divide_rows_b2 (a_b : (List Int)) (a_p : Int) (t5 : Int) (s39 : (List Int) × (List Int)) (x45 : Int) : R ((List Int) × (List Int)) :=
  (getL s39.1 ((x45 + ((a_b).length : Int)) - (1 : Int))).bind fun t57 => grd (CMul t57 t5) <| grd (0 < a_p) <| (setL s39.2 x45 ((t57 * t5) % a_p)).bind fun t62 => (foldR (m_divide_rows_b1 a_p x45 t62) s39.1 (enumF a_b)).bind fun s69 => R.ok (s69, t62)
def m_divide_rows (a_a : (List Int)) (a_b : (List Int)) (a_p : Int) : R ((List Int) × (List Int)) :=
  if (!(!(a_b).isEmpty)) = true then (R.er .zd) else ((getL a_b (-(1 : Int))).bind fun t2 => (m_inverse_modulo t2 a_p).bind fun t5 => grd (repOk ([(0 : Int)]) ((((a_a).length : Int) - ((a_b).length : Int)) + (1 : Int))) <| (grd (rgOk ((((a_a).length : Int) - ((a_b).length : Int)) + (1 : Int))) <| foldR (m_divide_rows_b2 a_b a_p t5) (a_a, (repL ([(0 : Int)]) ((((a_a).length : Int) - ((a_b).length : Int)) + (1 : Int)))) (rngC (((((((a_a).length : Int) - ((a_b).length : Int)) + (1 : Int))).toNat : Int) - 1) (-1) (((((a_a).length : Int) - ((a_b).length : Int)) + (1 : Int))).toNat)).bind fun s32 => (noEr (m_trimmed s32.2 a_p)).bind fun t124 => (noEr (m_trimmed s32.1 a_p)).bind fun t129 => R.ok (t124, t129))
def sp_divide_rows (K : PySem.W.Frag) (C : Xc) : Sp := fun vs H Q E => ∃ (a_a : (List Int)) (v_a : V) (a_b : (List Int)) (v_b : V) (a_p : Int), vs = [v_a, v_b, (.int a_p)] ∧ (rT K rI) H a_a v_a ∧ (rT K rI) H a_b v_b ∧ wp (m_divide_rows a_a a_b a_p) (fun r => ∀ v H', Gr [] H H' → (rP K (rT K rI) (rT K rI)) H' r v → Q v H') (XEr C [] H E)
theorem ok_divide_rows {P : Program} {w : World} {K : PySem.W.Frag} {mg : Str → Option Value} {base : Heap} {f : Addr} {fd : FuncData} {c_fault c_zd c_mal c_refu : Addr} (F : Fun K "divide_rows" "divide_rows" s_divide_rows f fd) (z_list : mg "list" = none) (z_len : mg "len" = none) (z_reversed : mg "reversed" = none) (z_range : mg "range" = none) (z_enumerate : mg "enumerate" = none) (Xk_zd : Xk K mg "ZeroDivisor" c_zd) (c_inverse_modulo : Cal P w K mg base (CX P w) 2 "inverse_modulo" ["a", "m"] (sp_inverse_modulo K (⟨some c_fault, some c_zd, some c_mal, some c_refu, none⟩ : Xc))) (c_trimmed : Cal P w K mg base CX0 2 "trimmed" ["row", "p"] (sp_trimmed K)) : FnOk P w K mg base (CX P w) 3 f fd ["a", "b", "p"] (sp_divide_rows K (⟨some c_fault, some c_zd, some c_mal, some c_refu, none⟩ : Xc)) := by
  obtain ⟨f_inverse_modulo, fd_inverse_modulo, G_inverse_modulo, g_inverse_modulo, k_inverse_modulo, b_inverse_modulo⟩ := c_inverse_modulo
  obtain ⟨f_trimmed, fd_trimmed, G_trimmed, g_trimmed, k_trimmed, b_trimmed⟩ := c_trimmed
  refine F.okX sc_divide_rows (fun vs H Q E h => ?_) (fun cdv A outer s H0 vs Q E hr h => ?_)
  · obtain ⟨a_a, v_a, a_b, v_b, a_p, rfl, h_a, h_b, hm⟩ := h
    rfl
  · obtain ⟨a_a, v_a, a_b, v_b, a_p, rfl, h_a, h_b, hm⟩ := h
    have hm : wp (m_divide_rows a_a a_b a_p) _ _ := hm
    unfold m_divide_rows at hm
    refine ⟨_, (pss_cons (ps_if (pt_not (pt_tru (K := K) (pv 1) rfl)) (pss_one (ps_raise rfl (takes_of rfl rfl rfl rfl) (pmk_own PySem.F.excBase_ValueError Xk_zd.x Xk_zd.g Xk_zd.k (raises_own Xk_zd.b Xk_zd.t) (by rfl)))) pss_nil) (pss_cons (ps_set (i := 3) sc_divide_rows.nd rfl (Or.inl rfl) (pe_callS G_inverse_modulo (hr.mono (by decide)) (by rfl) g_inverse_modulo k_inverse_modulo b_inverse_modulo (fun σ => passAt (takes_of rfl rfl rfl rfl) σ) (pa_cons (pe_ix (ix_tupK (K := K) rfl) (pv 1) (pe_un un_neg pe_int) (fun _ _ => rfl)) (pa_cons (pv 2) pa_nil)))) (pss_cons (ps_set (i := 4) sc_divide_rows.nd rfl (Or.inl rfl) (pe_callTy (listK (K := K) rfl) (by rfl) z_list (by decide +kernel) (pa_cons (pv 0) pa_nil))) (pss_cons (ps_set (i := 5) sc_divide_rows.nd rfl (Or.inl rfl) (pe_op op_add (pe_op op_sub (pe_callB (lenK (K := K) rfl) (by rfl) z_len PySem.boot_len (pa_cons (pv 0) pa_nil)) (pe_callB (lenK (K := K) rfl) (by rfl) z_len PySem.boot_len (pa_cons (pv 1) pa_nil))) pe_int)) (pss_cons (ps_set (i := 6) sc_divide_rows.nd rfl (Or.inl rfl) (pe_op op_rep (pe_lst (pa_cons pe_int pa_nil)) (pv 5))) (pss_cons (ps_for PassesOwn.leaving rfl (pi_revR (by rfl) z_reversed (prg_1 (by rfl) z_range (pv 5))) (pg_name (i := 7) sc_divide_rows.nd rfl (Or.inl rfl)) (pss_cons (ps_asg (pe_op op_mod (pe_op op_mul (pe_ix (ix_listK (K := K) rfl) (pv 4) (pe_op op_sub (pe_op op_add (pv 7) (pe_callB (lenK (K := K) rfl) (by rfl) z_len PySem.boot_len (pa_cons (pv 1) pa_nil))) pe_int) (fun _ _ => rfl)) (pv 3)) (pv 2)) (pg_sub (pv 6) (pv 7) set_list)) (pss_one (ps_for PassesOwn.leaving rfl (pi_enumT (K := K) (by rfl) z_enumerate (pa_cons (pv 1) pa_nil) rfl) (pg_tup rfl (pgs_cons (pg_name (i := 8) sc_divide_rows.nd rfl (Or.inl rfl)) (pgs_cons (pg_name (i := 9) sc_divide_rows.nd rfl (Or.inl rfl)) pgs_nil))) (pss_one (ps_asg (pe_op op_mod (pe_op op_sub (pe_ix (ix_listK (K := K) rfl) (pv 4) (pe_op op_add (pv 7) (pv 8)) (fun _ _ => rfl)) (pe_op op_mul (pe_ix (ix_listK (K := K) rfl) (pv 6) (pv 7) (fun _ _ => rfl)) (pv 9))) (pv 2)) (pg_sub (pv 4) (pe_op op_add (pv 7) (pv 8)) set_list))))))) (pss_one (ps_ret (pe_tup (pa_cons (pe_call G_trimmed (hr.mono (by decide)) (by rfl) g_trimmed k_trimmed b_trimmed .nil pass0 (pa_cons (pv 6) (pa_cons (pv 2) pa_nil))) (pa_cons (pe_call G_trimmed (hr.mono (by decide)) (by rfl) g_trimmed k_trimmed b_trimmed .nil pass0 (pa_cons (pv 4) (pa_cons (pv 2) pa_nil))) pa_nil))))))))))), ?_⟩
    have g0 := Gr.refl (A := []) H0
    refine rd_seq (rd_if (rd_not (rd_Tru (rd_var rfl (tru_T h_b ?_)))))
    refine iteB (fun e1 => ?_) (fun e1 => ?_)
    · have hm := ifT e1 (wp_iteB hm)
      exact xe0_at hm rfl g0
    have hm := ifF e1 (wp_iteB hm)
    refine rd_next (rd_nx ?_)
    refine rd_seq (rd_asg (rd_callS (rd_cons (rd_op (rd_var rfl (rd_un (rd_c (rd_rU (ix_T h_b (wp_bind hm) fun t2 v3 h4 hm => ?_)))))))))
    obtain rfl := h4
    refine rd_cons (rd_var rfl (rd_nil ⟨_, _, rfl, wp_imp (wp_bind hm) (fun t5 hm H6 g7 => ?_) (fun _ e => XEr.sub g0 e)⟩))
    have h_a := Imm.mono g7 h_a
    have h_b := Imm.mono g7 h_b
    have g0 := g0.of0' g7
    refine rd_gn ?_
    refine rd_nx ?_
    refine rd_seq (rd_asg (rd_cb (rd_cons (rd_var rfl (rd_nil (lst_of_T h_a fun p8 H9 n10 g11 h12 => ?_))))))
    have nw13 := Gr.free g0 n10
    have h_a := Imm.mono g11 h_a
    have h_b := Imm.mono g11 h_b
    have g0 := g0.of0' g11
    refine rd_gn ?_
    refine rd_nx ?_
    refine rd_seq (rd_asg (rd_op (rd_op (rd_cb (rd_cons (rd_var rfl (rd_nil (len_T h_a (rd_cb (rd_cons (rd_var rfl (rd_nil (len_T h_b (rd_rI0 (rd_c (rd_rI0 (rd_gn ?_)))))))))))))))))
    refine rd_nx ?_
    refine rd_seq (rd_asg (rd_op (rd_lst (rd_cons (rd_c (rd_nil (mk_L (r := rI) (xs := [(0 : Int)]) (.cons rfl .nil) (by show 1 ≤ sizeLine; decide) fun p14 H15 n16 g17 h18 => ?_)))))))
    have ne19 : p8 ≠ p14 := Ls.ne h12 n16
    have nw20 := Gr.free g0 n16
    have h_b := Imm.mono g17 h_b
    have h12 := Ls.g0 g17 h12
    have g0 := g0.of0' g17
    obtain ⟨c21, hm⟩ := wp_grd hm
    refine rd_var rfl (rep_L h18 c21 fun p22 H23 n24 g25 h26 => ?_)
    have ne27 : p8 ≠ p22 := Ls.ne h12 n24
    have nw28 := Gr.free g0 n24
    have h_b := Imm.mono g25 h_b
    have h12 := Ls.g0 g25 h12
    have g0 := g0.of0' g25
    refine rd_gn ?_
    refine rd_nx ?_
    refine seq_join (t := tFor _ _ _) (wp_bind hm) (fun (s : (List Int) × (List Int)) (σ : L2.St) (H : Hp) => ∃ (o36 : Option V) (o37 : Option V) (o38 : Option V), σ = [some v_a, some v_b, some (.int a_p), some (.int t5), some (.ref p8), some (.int ((((a_a).length : Int) - ((a_b).length : Int)) + (1 : Int))), some (.ref p22), o36, o37, o38] ∧ Gr [p8, p22] H23 H ∧ Ls rI H p8 s.1 ∧ Ls rI H p22 s.2) (fun N30 hN31 hm => ?_) (fun s32 σ H33 hr34 hm => ?_)
    · have gl35 := Gr.refl (A := [p8, p22]) H23
      obtain ⟨c43, hm⟩ := wp_grd hm
      have gl44 := Gr.refl (A := [p8, p22]) H23
      refine rd_for (rd_irev (rd_var rfl (rd_rev c43 (for_R (r := rI) (H0 := H23) wk_rngC (fun (s : (List Int) × (List Int)) (σ : L2.St) (H : Hp) => ∃ (o36 : Option V) (o37 : Option V) (o38 : Option V), σ = [some v_a, some v_b, some (.int a_p), some (.int t5), some (.ref p8), some (.int ((((a_a).length : Int) - ((a_b).length : Int)) + (1 : Int))), some (.ref p22), o36, o37, o38] ∧ Gr [p8, p22] H23 H ∧ Ls rI H p8 s.1 ∧ Ls rI H p22 s.2) (by exact wp_N hm (fun s σ' H' hr hz => hN31 s σ' H' hr hz)) ⟨_, _, _, rfl, gl44, h12, h26⟩ (fun _ _ _ hr => by obtain ⟨_, _, _, _, g, _, _⟩ := hr; exact ⟨trivial, _, g⟩) (fun x45 v46 s39 σ H40 H48 N42 hr41 hg49 hx47 hm => ?_)))))
      unfold m_divide_rows_b2 at hm
      obtain ⟨o54, o55, o56, rfl, g51, h52, h53⟩ := hr41
      have h_b := Imm.mono g51 h_b
      have g0 := Gr.many g0 (all1 ((.inr nw13)) (all1 ((.inr nw28)) all0)) g51
      have gl44 := Gr.many gl44 (all1 ((.inl (by simp))) (all1 ((.inl (by simp))) all0)) g51
      have h_b := Imm.mono hg49 h_b
      have h52 := Ls.g0 hg49 h52
      have h53 := Ls.g0 hg49 h53
      have g0 := g0.of0' hg49
      have gl44 := gl44.of0' hg49
      obtain rfl := hx47
      refine rd_gn (rd_seq (rd_asg (rd_op (rd_op (rd_op (rd_var rfl (rd_op (rd_op (rd_var rfl (rd_cb (rd_cons (rd_var rfl (rd_nil (len_T h_b (rd_rI0 (rd_c (rd_rI0 (ix_L (Ls.q h52) (wp_bind hm) fun t57 v58 h59 hm => ?_))))))))))))))))))
      obtain rfl := h59
      obtain ⟨c60, hm⟩ := wp_grd hm
      obtain ⟨c61, hm⟩ := wp_grd hm
      refine rd_var rfl (rd_rI (c60) (rd_var rfl (rd_rI c61 (rd_gs (rd_var rfl (rd_var rfl (rd_set h53 rfl (wp_bind hm) fun t62 H63 g64 h65 hm => ?_)))))))
      have h_b := Imm.mono g64 h_b
      have h52 := Ls.g1 g64 ne27 h52
      have g0 := Gr.loc g0 nw28 g64
      have gl44 := Gr.at1 gl44 (by simp) g64
      refine rd_nx ?_
      refine nx_join (t := tFor _ _ _) (wp_bind hm) (fun (s : (List Int)) (σ : L2.St) (H : Hp) => ∃ (o73 : Option V) (o74 : Option V), σ = [some v_a, some v_b, some (.int a_p), some (.int t5), some (.ref p8), some (.int ((((a_a).length : Int) - ((a_b).length : Int)) + (1 : Int))), some (.ref p22), some (.int x45), o73, o74] ∧ Gr [p8] H63 H ∧ Ls rI H p8 s) (fun N67 hN68 hm => ?_) (fun s69 σ H70 hr71 hm => ?_)
      · have gl72 := Gr.refl (A := [p8]) H63
        obtain ⟨a79, ea83, vs80, hl81, hp82⟩ := id h_b
        have gl84 := Gr.refl (A := [p8]) H63
        refine rd_for (rd_ienumT (rd_cons (rd_var rfl (rd_nil (enum_t ea83 hl81 (for_R (r := (rP K rI rI)) (H0 := H63) (wk_enumT hp82) (fun (s : (List Int)) (σ : L2.St) (H : Hp) => ∃ (o73 : Option V) (o74 : Option V), σ = [some v_a, some v_b, some (.int a_p), some (.int t5), some (.ref p8), some (.int ((((a_a).length : Int) - ((a_b).length : Int)) + (1 : Int))), some (.ref p22), some (.int x45), o73, o74] ∧ Gr [p8] H63 H ∧ Ls rI H p8 s) (by exact wp_N hm (fun s σ' H' hr hz => hN68 s σ' H' hr hz)) ⟨_, _, rfl, gl84, h52⟩ (fun _ _ _ hr => by obtain ⟨_, _, _, g, _⟩ := hr; exact ⟨g.tup hl81, _, g⟩) (fun x85 v86 s75 σ H76 H88 N78 hr77 hg89 hx87 hm => ?_)))))))
        unfold m_divide_rows_b1 at hm
        obtain ⟨o93, o94, rfl, g91, h92⟩ := hr77
        have h_b := Imm.mono g91 h_b
        have h65 := Ls.gA g91 (nin1 (Ne.symm ne27) nin0) h65
        have g0 := Gr.many g0 (all1 ((.inr nw13)) all0) g91
        have gl44 := Gr.many gl44 (all1 ((.inl (by simp))) all0) g91
        have gl84 := Gr.many gl84 (all1 ((.inl (by simp))) all0) g91
        have h_b := Imm.mono hg89 h_b
        have h65 := Ls.g0 hg89 h65
        have h92 := Ls.g0 hg89 h92
        have g0 := g0.of0' hg89
        have gl44 := gl44.of0' hg89
        have gl84 := gl84.of0' hg89
        obtain ⟨a95, x96, x97, ea101, h98, h99, h100⟩ := id hx87
        obtain rfl := h99
        obtain rfl := h100
        refine rd_gtE ea101 h98 rfl (rd_gc (rd_gn (rd_gc (rd_gn (rd_g0 ?_)))))
        refine rd_asg (rd_op (rd_op (rd_op (rd_var rfl (rd_op (rd_var rfl (rd_var rfl (rd_rI0 (ix_L (Ls.q h92) (wp_bind hm) fun t102 v103 h104 hm => ?_)))))))))
        obtain rfl := h104
        refine rd_op (rd_op (rd_var rfl (rd_var rfl (ix_L (Ls.q h65) (wp_bind hm) fun t105 v106 h107 hm => ?_))))
        obtain rfl := h107
        obtain ⟨c108, hm⟩ := wp_grd hm
        obtain ⟨c109, hm⟩ := wp_grd hm
        refine rd_var rfl (rd_rI (c108) (rd_rI0 (rd_var rfl (rd_rI c109 (rd_gs (rd_var rfl (rd_op (rd_var rfl (rd_var rfl (rd_rI0 (rd_set h92 rfl (wp_bind hm) fun t110 H111 g112 h113 hm => ?_)))))))))))
        have h_b := Imm.mono g112 h_b
        have h65 := Ls.g1 g112 (Ne.symm ne27) h65
        have g0 := Gr.loc g0 nw13 g112
        have gl44 := Gr.at1 gl44 (by simp) g112
        have gl84 := Gr.at1 gl84 (by simp) g112
        exact hm _ _ ⟨_, _, rfl, gl84, h113⟩
      obtain ⟨o116, o117, rfl, g114, h115⟩ := hr71
      have h_b := Imm.mono g114 h_b
      have h65 := Ls.gA g114 (nin1 (Ne.symm ne27) nin0) h65
      have g0 := Gr.many g0 (all1 ((.inr nw13)) all0) g114
      have gl44 := Gr.many gl44 (all1 ((.inl (by simp))) all0) g114
      exact hm _ _ ⟨_, _, _, rfl, gl44, h115, h65⟩
    obtain ⟨o121, o122, o123, rfl, g118, h119, h120⟩ := hr34
    have h_b := Imm.mono g118 h_b
    have g0 := Gr.many g0 (all1 ((.inr nw13)) (all1 ((.inr nw28)) all0)) g118
    refine rd_ret (rd_tup (rd_cons (rd_call (rd_cons (rd_var rfl (rd_cons (rd_var rfl (rd_nil ⟨_, _, _, rfl, h120, wp_imp (wp_bindN hm) (fun t124 hm v127 H125 g126 h128 => ?_) (fun _ e => e)⟩))))))))
    have h119 := Ls.g0 g126 h119
    have h120 := Ls.g0 g126 h120
    have g0 := g0.of0' g126
    refine rd_cons (rd_call (rd_cons (rd_var rfl (rd_cons (rd_var rfl (rd_nil ⟨_, _, _, rfl, h119, wp_imp (wp_bindN hm) (fun t129 hm v132 H130 g131 h133 => ?_) (fun _ e => e)⟩))))))
    have h119 := Ls.g0 g131 h119
    have h120 := Ls.g0 g131 h120
    have h128 := Imm.mono g131 h128
    have g0 := g0.of0' g131
    refine rd_nil (mk_P (K := K) (r := (rT K rI)) (s := (rT K rI)) h128 h133 fun v134 H135 g136 h137 => ?_)
    have h119 := Ls.g0 g136 h119
    have h120 := Ls.g0 g136 h120
    have g0 := g0.of0' g136
    exact hm _ _ g0 h137

abbrev s_multiply_rows : Stmt := topS 24
abbrev n_multiply_rows : List Str := ["a", "b", "p", "products", "i", "x", "j", "y"]
theorem sc_multiply_rows : FnScope n_multiply_rows ["a", "b", "p"] (defScope s_multiply_rows) := ⟨rfl, rfl, rfl, by decide +kernel, rfl, by decide +kernel, by decide +kernel⟩
def m_multiply_rows_b1 (x35 : (Int × Int)) (s63 : (List Int)) (x73 : (Int × Int)) : R ((List Int)) :=
  (getL s63 (x35.1 + x73.1)).bind fun t90 => grd (CMul x35.2 x73.2) <| (setL s63 (x35.1 + x73.1) (t90 + (x35.2 * x73.2))).bind fun t94 => R.ok t94
def m_multiply_rows_b2 (a_b : (List Int)) (s25 : (List Int)) (x35 : (Int × Int)) : R ((List Int)) :=
  (foldR (m_multiply_rows_b1 x35) s25 (enumF a_b)).bind fun s57 => R.ok s57
def m_multiply_rows (a_a : (List Int)) (a_b : (List Int)) (a_p : Int) : R (List Int) :=
  grd (repOk ([(0 : Int)]) (((a_a).length : Int) + ((a_b).length : Int))) <| (foldR (m_multiply_rows_b2 a_b) (repL ([(0 : Int)]) (((a_a).length : Int) + ((a_b).length : Int))) (enumF a_a)).bind fun s17 => (m_trimmed s17 a_p).bind fun t108 => R.ok t108
def sp_multiply_rows (K : PySem.W.Frag) : Sp := fun vs H Q _ => ∃ (a_a : (List Int)) (v_a : V) (a_b : (List Int)) (v_b : V) (a_p : Int), vs = [v_a, v_b, (.int a_p)] ∧ (rT K rI) H a_a v_a ∧ (rT K rI) H a_b v_b ∧ wp (m_multiply_rows a_a a_b a_p) (fun r => ∀ v H', Gr [] H H' → (rT K rI) H' r v → Q v H') (fun _ => False)
theorem ok_multiply_rows {P : Program} {w : World} {K : PySem.W.Frag} {mg : Str → Option Value} {base : Heap} {f : Addr} {fd : FuncData} (F : Fun K "multiply_rows" "multiply_rows" s_multiply_rows f fd) (z_len : mg "len" = none) (z_enumerate : mg "enumerate" = none) (c_trimmed : Cal P w K mg base CX0 2 "trimmed" ["row", "p"] (sp_trimmed K)) : FnOk P w K mg base CX0 3 f fd ["a", "b", "p"] (sp_multiply_rows K) := by
  obtain ⟨f_trimmed, fd_trimmed, G_trimmed, g_trimmed, k_trimmed, b_trimmed⟩ := c_trimmed
  refine F.ok sc_multiply_rows (fun vs H Q E h => ?_) (fun cdv A outer s H0 vs Q E hr h => ?_)
  · obtain ⟨a_a, v_a, a_b, v_b, a_p, rfl, h_a, h_b, hm⟩ := h
    rfl
  · obtain ⟨a_a, v_a, a_b, v_b, a_p, rfl, h_a, h_b, hm⟩ := h
    have hm : wp (m_multiply_rows a_a a_b a_p) _ _ := hm
    unfold m_multiply_rows at hm
    refine ⟨_, (pss_cons (ps_set (i := 3) sc_multiply_rows.nd rfl (Or.inl rfl) (pe_op op_rep (pe_lst (pa_cons pe_int pa_nil)) (pe_op op_add (pe_callB (lenK (K := K) rfl) (by rfl) z_len PySem.boot_len (pa_cons (pv 0) pa_nil)) (pe_callB (lenK (K := K) rfl) (by rfl) z_len PySem.boot_len (pa_cons (pv 1) pa_nil))))) (pss_cons (ps_for PassesOwn.never rfl (pi_enumT (K := K) (by rfl) z_enumerate (pa_cons (pv 0) pa_nil) rfl) (pg_tup rfl (pgs_cons (pg_name (i := 4) sc_multiply_rows.nd rfl (Or.inl rfl)) (pgs_cons (pg_name (i := 5) sc_multiply_rows.nd rfl (Or.inl rfl)) pgs_nil))) (pss_one (ps_for PassesOwn.never rfl (pi_enumT (K := K) (by rfl) z_enumerate (pa_cons (pv 1) pa_nil) rfl) (pg_tup rfl (pgs_cons (pg_name (i := 6) sc_multiply_rows.nd rfl (Or.inl rfl)) (pgs_cons (pg_name (i := 7) sc_multiply_rows.nd rfl (Or.inl rfl)) pgs_nil))) (pss_one (ps_asg (pe_op op_add (pe_ix (ix_listK (K := K) rfl) (pv 3) (pe_op op_add (pv 4) (pv 6)) (fun _ _ => rfl)) (pe_op op_mul (pv 5) (pv 7))) (pg_sub (pv 3) (pe_op op_add (pv 4) (pv 6)) set_list)))))) (pss_one (ps_ret (pe_call G_trimmed (hr.mono (by decide)) (by rfl) g_trimmed k_trimmed b_trimmed .nil pass0 (pa_cons (pv 3) (pa_cons (pv 2) pa_nil))))))), ?_⟩
    have g0 := Gr.refl (A := []) H0
    refine rd_seq (rd_asg (rd_op (rd_lst (rd_cons (rd_c (rd_nil (mk_L (r := rI) (xs := [(0 : Int)]) (.cons rfl .nil) (by show 1 ≤ sizeLine; decide) fun p1 H2 n3 g4 h5 => ?_)))))))
    have nw6 := Gr.free g0 n3
    have h_a := Imm.mono g4 h_a
    have h_b := Imm.mono g4 h_b
    have g0 := g0.of0' g4
    obtain ⟨c7, hm⟩ := wp_grd hm
    refine rd_op (rd_cb (rd_cons (rd_var rfl (rd_nil (len_T h_a (rd_cb (rd_cons (rd_var rfl (rd_nil (len_T h_b (rd_rI0 (rep_L h5 c7 fun p8 H9 n10 g11 h12 => ?_))))))))))))
    have nw13 := Gr.free g0 n10
    have h_a := Imm.mono g11 h_a
    have h_b := Imm.mono g11 h_b
    have g0 := g0.of0' g11
    refine rd_gn ?_
    refine rd_nx ?_
    refine seq_join (t := tFor _ _ _) (wp_bind hm) (fun (s : (List Int)) (σ : L2.St) (H : Hp) => ∃ (o21 : Option V) (o22 : Option V) (o23 : Option V) (o24 : Option V), σ = [some v_a, some v_b, some (.int a_p), some (.ref p8), o21, o22, o23, o24] ∧ Gr [p8] H9 H ∧ Ls rI H p8 s) (fun N15 hN16 hm => ?_) (fun s17 σ H18 hr19 hm => ?_)
    · have gl20 := Gr.refl (A := [p8]) H9
      obtain ⟨a29, ea33, vs30, hl31, hp32⟩ := id h_a
      have gl34 := Gr.refl (A := [p8]) H9
      refine rd_for (rd_ienumT (rd_cons (rd_var rfl (rd_nil (enum_t ea33 hl31 (for_R (r := (rP K rI rI)) (H0 := H9) (wk_enumT hp32) (fun (s : (List Int)) (σ : L2.St) (H : Hp) => ∃ (o21 : Option V) (o22 : Option V) (o23 : Option V) (o24 : Option V), σ = [some v_a, some v_b, some (.int a_p), some (.ref p8), o21, o22, o23, o24] ∧ Gr [p8] H9 H ∧ Ls rI H p8 s) (by exact wp_N hm (fun s σ' H' hr hz => hN16 s σ' H' hr hz)) ⟨_, _, _, _, rfl, gl34, h12⟩ (fun _ _ _ hr => by obtain ⟨_, _, _, _, _, g, _⟩ := hr; exact ⟨g.tup hl31, _, g⟩) (fun x35 v36 s25 σ H26 H38 N28 hr27 hg39 hx37 hm => ?_)))))))
      unfold m_multiply_rows_b2 at hm
      obtain ⟨o43, o44, o45, o46, rfl, g41, h42⟩ := hr27
      have h_a := Imm.mono g41 h_a
      have h_b := Imm.mono g41 h_b
      have g0 := Gr.many g0 (all1 ((.inr nw13)) all0) g41
      have gl34 := Gr.many gl34 (all1 ((.inl (by simp))) all0) g41
      have h_a := Imm.mono hg39 h_a
      have h_b := Imm.mono hg39 h_b
      have h42 := Ls.g0 hg39 h42
      have g0 := g0.of0' hg39
      have gl34 := gl34.of0' hg39
      obtain ⟨a47, x48, x49, ea53, h50, h51, h52⟩ := id hx37
      obtain rfl := h51
      obtain rfl := h52
      refine rd_gtE ea53 h50 rfl (rd_gc (rd_gn (rd_gc (rd_gn (rd_g0 ?_)))))
      refine nx_join (t := tFor _ _ _) (wp_bind hm) (fun (s : (List Int)) (σ : L2.St) (H : Hp) => ∃ (o61 : Option V) (o62 : Option V), σ = [some v_a, some v_b, some (.int a_p), some (.ref p8), some (.int x35.1), some (.int x35.2), o61, o62] ∧ Gr [p8] H38 H ∧ Ls rI H p8 s) (fun N55 hN56 hm => ?_) (fun s57 σ H58 hr59 hm => ?_)
      · have gl60 := Gr.refl (A := [p8]) H38
        obtain ⟨a67, ea71, vs68, hl69, hp70⟩ := id h_b
        have gl72 := Gr.refl (A := [p8]) H38
        refine rd_for (rd_ienumT (rd_cons (rd_var rfl (rd_nil (enum_t ea71 hl69 (for_R (r := (rP K rI rI)) (H0 := H38) (wk_enumT hp70) (fun (s : (List Int)) (σ : L2.St) (H : Hp) => ∃ (o61 : Option V) (o62 : Option V), σ = [some v_a, some v_b, some (.int a_p), some (.ref p8), some (.int x35.1), some (.int x35.2), o61, o62] ∧ Gr [p8] H38 H ∧ Ls rI H p8 s) (by exact wp_N hm (fun s σ' H' hr hz => hN56 s σ' H' hr hz)) ⟨_, _, rfl, gl72, h42⟩ (fun _ _ _ hr => by obtain ⟨_, _, _, g, _⟩ := hr; exact ⟨g.tup hl69, _, g⟩) (fun x73 v74 s63 σ H64 H76 N66 hr65 hg77 hx75 hm => ?_)))))))
        unfold m_multiply_rows_b1 at hm
        obtain ⟨o81, o82, rfl, g79, h80⟩ := hr65
        have h_a := Imm.mono g79 h_a
        have h_b := Imm.mono g79 h_b
        have g0 := Gr.many g0 (all1 ((.inr nw13)) all0) g79
        have gl34 := Gr.many gl34 (all1 ((.inl (by simp))) all0) g79
        have gl72 := Gr.many gl72 (all1 ((.inl (by simp))) all0) g79
        have h_a := Imm.mono hg77 h_a
        have h_b := Imm.mono hg77 h_b
        have h80 := Ls.g0 hg77 h80
        have g0 := g0.of0' hg77
        have gl34 := gl34.of0' hg77
        have gl72 := gl72.of0' hg77
        obtain ⟨a83, x84, x85, ea89, h86, h87, h88⟩ := id hx75
        obtain rfl := h87
        obtain rfl := h88
        refine rd_gtE ea89 h86 rfl (rd_gc (rd_gn (rd_gc (rd_gn (rd_g0 ?_)))))
        refine rd_asg (rd_op (rd_op (rd_var rfl (rd_op (rd_var rfl (rd_var rfl (rd_rI0 (ix_L (Ls.q h80) (wp_bind hm) fun t90 v91 h92 hm => ?_))))))))
        obtain rfl := h92
        obtain ⟨c93, hm⟩ := wp_grd hm
        refine rd_op (rd_var rfl (rd_var rfl (rd_rI (c93) (rd_rI0 (rd_gs (rd_var rfl (rd_op (rd_var rfl (rd_var rfl (rd_rI0 (rd_set h80 rfl (wp_bind hm) fun t94 H95 g96 h97 hm => ?_)))))))))))
        have h_a := Imm.mono g96 h_a
        have h_b := Imm.mono g96 h_b
        have g0 := Gr.loc g0 nw13 g96
        have gl34 := Gr.at1 gl34 (by simp) g96
        have gl72 := Gr.at1 gl72 (by simp) g96
        exact hm _ _ ⟨_, _, rfl, gl72, h97⟩
      obtain ⟨o100, o101, rfl, g98, h99⟩ := hr59
      have h_a := Imm.mono g98 h_a
      have h_b := Imm.mono g98 h_b
      have g0 := Gr.many g0 (all1 ((.inr nw13)) all0) g98
      have gl34 := Gr.many gl34 (all1 ((.inl (by simp))) all0) g98
      exact hm _ _ ⟨_, _, _, _, rfl, gl34, h99⟩
    obtain ⟨o104, o105, o106, o107, rfl, g102, h103⟩ := hr19
    have h_a := Imm.mono g102 h_a
    have h_b := Imm.mono g102 h_b
    have g0 := Gr.many g0 (all1 ((.inr nw13)) all0) g102
    refine rd_ret (rd_call (rd_cons (rd_var rfl (rd_cons (rd_var rfl (rd_nil ⟨_, _, _, rfl, h103, wp_imp (wp_bind hm) (fun t108 hm v111 H109 g110 h112 => ?_) (fun _ e => e)⟩))))))
    have h103 := Ls.g0 g110 h103
    have g0 := g0.of0' g110
    exact hm _ _ g0 h112

abbrev lw_lam1 : LW := lwOf "power_row.<locals>.<lambda>" (aArg 3 (aReturn (aBody 1 (topS 27))))
theorem ndb_lam1 : NdefX.ndefB (defScope (topS 27)) lw_lam1.scope ["m", "p"] = true := by decide +kernel
def m_lam1 (k_m : (List Int)) (k_p : Int) (a_x : (List Int)) (a_y : (List Int)) : R (List Int) :=
  (noEr (m_multiply_rows a_x a_y k_p)).bind fun t1 => (m_divide_rows t1 k_m k_p).bind fun t6 => R.ok t6.2
def spl_lam1 (K : PySem.W.Frag) (C : Xc) : List (Option V) → Sp := fun ws vs H Q E => ∃ (k_m : (List Int)) (vk_m : V) (k_p : Int) (a_x : (List Int)) (va_x : V) (a_y : (List Int)) (va_y : V), ws = [some vk_m, some (.int k_p)] ∧ vs = [va_x, va_y] ∧ (rT K rI) H k_m vk_m ∧ (rT K rI) H a_x va_x ∧ (rT K rI) H a_y va_y ∧ wp (m_lam1 k_m k_p a_x a_y) (fun r => ∀ v H', Gr [] H H' → (rT K rI) H' r v → Q v H') (XEr C [] H E)
theorem nsc_lam1 : NdefX.NScope ["x", "y", "m", "p"] ["x", "y"] ["m", "p"] lw_lam1.scope := NdefX.nscope_by (by decide +kernel)
theorem okl_lam1 {P : Program} {w : World} {K : PySem.W.Frag} {mg : Str → Option Value} {base : Heap} {c_fault c_zd c_mal c_refu : Addr}  (c_multiply_rows : Cal P w K mg base CX0 3 "multiply_rows" ["a", "b", "p"] (sp_multiply_rows K)) (c_divide_rows : Cal P w K mg base (CX P w) 3 "divide_rows" ["a", "b", "p"] (sp_divide_rows K (⟨some c_fault, some c_zd, some c_mal, some c_refu, none⟩ : Xc))) : LOk P w K mg base (CX P w) 4 lw_lam1 ["x", "y"] ["m", "p"] (spl_lam1 K (⟨some c_fault, some c_zd, some c_mal, some c_refu, none⟩ : Xc)) := by
  obtain ⟨f_multiply_rows, fd_multiply_rows, G_multiply_rows, g_multiply_rows, k_multiply_rows, b_multiply_rows⟩ := c_multiply_rows
  obtain ⟨f_divide_rows, fd_divide_rows, G_divide_rows, g_divide_rows, k_divide_rows, b_divide_rows⟩ := c_divide_rows
  refine lok_of nsc_lam1 (fun _ _ _ _ us hl => match us, hl with | [_, _], _ => rfl) (fun ws vs H Q E h => ?_) (fun A outer s H0 vs ws Q E f c cl hr h => ?_)
  · obtain ⟨k_m, vk_m, k_p, a_x, va_x, a_y, va_y, rfl, rfl, hk_m, ha_x, ha_y, hm⟩ := h
    rfl
  · obtain ⟨k_m, vk_m, k_p, a_x, va_x, a_y, va_y, rfl, rfl, hk_m, ha_x, ha_y, hm⟩ := h
    have hm : wp (m_lam1 k_m k_p a_x a_y) _ _ := hm
    unfold m_lam1 at hm
    refine ⟨_, (pe_ix (ix_tupK (K := K) rfl) (pe_callS G_divide_rows (hr.mono (by decide)) (by rfl) g_divide_rows k_divide_rows b_divide_rows (fun σ => passAt (takes_of rfl rfl rfl rfl) σ) (pa_cons (pe_call G_multiply_rows (hr.mono (by decide)) (by rfl) g_multiply_rows k_multiply_rows b_multiply_rows .nil pass0 (pa_cons (pv 0) (pa_cons (pv 1) (pa_cons (pv 3) pa_nil)))) (pa_cons (pv 2) (pa_cons (pv 3) pa_nil)))) pe_int (fun _ _ => rfl)), ?_⟩
    have g0 := Gr.refl (A := []) H0
    refine rd_op (rd_callS (rd_cons (rd_call (rd_cons (rd_var rfl (rd_cons (rd_var rfl (rd_cons (rd_var rfl (rd_nil ⟨_, _, _, _, _, rfl, ha_x, ha_y, wp_imp (wp_bindN hm) (fun t1 hm v4 H2 g3 h5 => ?_) (fun _ e => e)⟩))))))))))
    have hk_m := Imm.mono g3 hk_m
    have ha_x := Imm.mono g3 ha_x
    have ha_y := Imm.mono g3 ha_y
    have g0 := g0.of0' g3
    refine rd_cons (rd_var rfl (rd_cons (rd_var rfl (rd_nil ⟨_, _, _, _, _, rfl, h5, hk_m, wp_imp (wp_bind hm) (fun t6 hm v9 H7 g8 h10 => ?_) (fun _ e => XEr.sub g0 e)⟩))))
    have hk_m := Imm.mono g8 hk_m
    have ha_x := Imm.mono g8 ha_x
    have ha_y := Imm.mono g8 ha_y
    have g0 := g0.of0' g8
    refine rd_c (ix_P21 h10 (by rfl) fun v12 h13 => ?_)
    exact hm _ _ g0 h13

abbrev s_by_squaring : Stmt := topS 13
abbrev n_by_squaring : List Str := ["one", "base", "k", "product", "power", "square", "rest"]
theorem sc_by_squaring : FnScope n_by_squaring ["one", "base", "k", "product"] (defScope s_by_squaring) := ⟨rfl, rfl, rfl, by decide +kernel, rfl, by decide +kernel, by decide +kernel⟩
def m_by_squaring_b1 (s10 : (List Int) × (List Int) × Int) : R Bool :=
  R.ok (decide ((0 : Int) < s10.2.2))
def m_by_squaring_b2 (a_product : ((List Int) → (List Int) → R (List Int))) (s10 : (List Int) × (List Int) × Int) : R ((List Int) × (List Int) × Int) :=
  (if (decide ((s10.2.2 % (2 : Int)) = (1 : Int))) = true then ((a_product s10.1 s10.2.1).bind fun t33 => R.ok t33) else (R.ok s10.1)).bind fun s28 => if (decide ((0 : Int) < (s10.2.2 / (2 : Int)))) = true then ((a_product s10.2.1 s10.2.1).bind fun t43 => R.ok (s28, t43, (s10.2.2 / (2 : Int)))) else (R.ok (s28, s10.2.1, (s10.2.2 / (2 : Int))))
def m_by_squaring (a_one : (List Int)) (a_base : (List Int)) (a_k : Int) (a_product : ((List Int) → (List Int) → R (List Int))) : R (List Int) :=
  (whileR m_by_squaring_b1 (m_by_squaring_b2 a_product) 100000 (a_one, a_base, a_k)).bind fun s4 => R.ok s4.1
def sp_by_squaring (K : PySem.W.Frag) (C : Xc) : Addr → Addr → List (Option V) → Sp := fun lf lc ws vs H Q E => ∃ (k_m : (List Int)) (vk_m : V) (k_p : Int) (a_one : (List Int)) (v_one : V) (a_base : (List Int)) (v_base : V) (a_k : Int), ws = [some vk_m, some (.int k_p)] ∧ vs = [v_one, v_base, (.int a_k), .ref lf] ∧ (rT K rI) H k_m vk_m ∧ (rT K rI) H a_one v_one ∧ (rT K rI) H a_base v_base ∧ H lc = some (CodeO lc lw_lam1.qual) ∧ wp (m_by_squaring a_one a_base a_k (m_lam1 k_m k_p)) (fun r => ∀ v H', Gr [] H H' → (rT K rI) H' r v → Q v H') (XEr C [] H E)
theorem ok_by_squaring {P : Program} {w : World} {K : PySem.W.Frag} {mg : Str → Option Value} {base : Heap} {f : Addr} {fd : FuncData} {c_fault c_zd c_mal c_refu : Addr} (F : Fun K "by_squaring" "by_squaring" s_by_squaring f fd) (o_lam1 : LOk P w K mg base (CX P w) 4 lw_lam1 ["x", "y"] ["m", "p"] (spl_lam1 K (⟨some c_fault, some c_zd, some c_mal, some c_refu, none⟩ : Xc))) : FnOkC P w K mg base (CX P w) 5 f fd ["one", "base", "k", "product"] lw_lam1 ["m", "p"] (sp_by_squaring K (⟨some c_fault, some c_zd, some c_mal, some c_refu, none⟩ : Xc)) := by
  refine fun_okC F sc_by_squaring (fun lf lc ws vs H Q E h => ?_) (fun cdv A outer s H0 vs Q E lf lc cl ws hr T h => ?_)
  · obtain ⟨k_m, vk_m, k_p, a_one, v_one, a_base, v_base, a_k, rfl, rfl, hk_m, h_one, h_base, hcode, hm⟩ := h
    rfl
  · obtain ⟨k_m, vk_m, k_p, a_one, v_one, a_base, v_base, a_k, rfl, rfl, hk_m, h_one, h_base, hcode, hm⟩ := h
    have hm : wp (m_by_squaring a_one a_base a_k (m_lam1 k_m k_p)) _ _ := hm
    unfold m_by_squaring at hm
    refine ⟨_, (pss_cons (ps_set (i := 4) sc_by_squaring.nd rfl (Or.inl rfl) (pv 0)) (pss_cons (ps_set (i := 5) sc_by_squaring.nd rfl (Or.inl rfl) (pv 1)) (pss_cons (ps_set (i := 6) sc_by_squaring.nd rfl (Or.inl rfl) (pv 2)) (pss_cons (ps_while PassesOwn.leaving (pt_cmpR op_gt (pv 6) pe_int (nomark _)) (pss_cons (ps_if (pt_cmpR op_eqI (pe_op op_mod (pv 6) pe_int) pe_int (nomark _)) (pss_one (ps_set (i := 4) sc_by_squaring.nd rfl (Or.inl rfl) (pe_act (i := 3) T rfl o_lam1 (hr) (by decide) (fun σ => passAt (takes_of rfl rfl rfl rfl) σ) rfl (.inl rfl) (pa_cons (pv 4) (pa_cons (pv 5) pa_nil))))) pss_nil) (pss_cons (ps_set (i := 6) sc_by_squaring.nd rfl (Or.inl rfl) (pe_op op_fdiv (pv 6) pe_int)) (pss_one (ps_if (pt_cmpR op_gt (pv 6) pe_int (nomark _)) (pss_one (ps_set (i := 5) sc_by_squaring.nd rfl (Or.inl rfl) (pe_act (i := 3) T rfl o_lam1 (hr) (by decide) (fun σ => passAt (takes_of rfl rfl rfl rfl) σ) rfl (.inl rfl) (pa_cons (pv 5) (pa_cons (pv 5) pa_nil))))) pss_nil))))) (pss_one (ps_ret (pv 4))))))), ?_⟩
    have g0 := Gr.refl (A := []) H0
    have h_product : rF lc lw_lam1.qual H0 () (.ref lf) := rF_of hcode
    refine rd_seq (rd_asg (rd_var rfl (rd_gn ?_)))
    refine rd_nx ?_
    refine rd_seq (rd_asg (rd_var rfl (rd_gn ?_)))
    refine rd_nx ?_
    refine rd_seq (rd_asg (rd_var rfl (rd_gn ?_)))
    refine rd_nx ?_
    refine seq_join (t := tWhile _ _) (wp_bind hm) (fun (s : (List Int) × (List Int) × Int) (σ : L2.St) (H : Hp) => ∃ (w8 : V) (w9 : V), σ = [some v_one, some v_base, some (.int a_k), some (.ref lf), some w8, some w9, some (.int s.2.2)] ∧ Gr [] H0 H ∧ (rT K rI) H s.1 w8 ∧ (rT K rI) H s.2.1 w9) (fun N2 hN3 hm => ?_) (fun s4 σ H5 hr6 hm => ?_)
    · have gl7 := Gr.refl (A := []) H0
      refine whl_R (fun (s : (List Int) × (List Int) × Int) (σ : L2.St) (H : Hp) => ∃ (w8 : V) (w9 : V), σ = [some v_one, some v_base, some (.int a_k), some (.ref lf), some w8, some w9, some (.int s.2.2)] ∧ Gr [] H0 H ∧ (rT K rI) H s.1 w8 ∧ (rT K rI) H s.2.1 w9) (by exact wp_N hm (fun s σ' H' hr hz => hN3 s σ' H' hr hz)) ⟨_, _, rfl, gl7, h_one, h_base⟩ (fun s10 σ H11 N13 W14 m15 hW16 hr12 hm => ?_)
      unfold m_by_squaring_b1 at hm
      obtain ⟨w20, w22, rfl, g19, h21, h23⟩ := hr12
      have hk_m := Imm.mono g19 hk_m
      have h_product := Imm.mono g19 h_product
      have g0 := Gr.of0' g0 g19
      have gl7 := Gr.of0' gl7 g19
      refine rd_T (rd_op (rd_var rfl (rd_c (rd_rI0 (rd_kB ?_)))))
      refine iteB' (fun e24 => ?_) (fun e24 => ?_)
      · exact ifF e24 hm _ _ ⟨_, _, rfl, gl7, h21, h23⟩
      have hm := ifT e24 hm
      unfold m_by_squaring_b2 at hm
      refine ⟨N13, hW16, ?_⟩
      refine seq_join (t := tIfS _ _ _) (wp_bind hm) (fun (s : (List Int)) (σ : L2.St) (H : Hp) => ∃ (w38 : V), σ = [some v_one, some v_base, some (.int a_k), some (.ref lf), some w38, some w22, some (.int s10.2.2)] ∧ Gr [] H11 H ∧ (rT K rI) H s w38) (fun N26 hN27 hm => ?_) (fun s28 σ H29 hr30 hm => ?_)
      · have gl31 := Gr.refl (A := []) H11
        refine rd_if (rd_T (rd_op (rd_op (rd_var rfl (rd_c (rd_rI (by show (0 : Int) < 2; decide) (rd_c (rd_rI0 (rd_kB ?_)))))))))
        refine iteB (fun e32 => ?_) (fun e32 => ?_)
        · have hm := ifT e32 (wp_iteB hm)
          refine rd_asg (rd_act rfl (rd_cons (rd_var rfl (rd_cons (rd_var rfl (rd_nil ⟨h_product, _, _, _, _, _, _, _, rfl, rfl, hk_m, h21, h23, wp_imp (wp_bind hm) (fun t33 hm v36 H34 g35 h37 => ?_) (fun _ e => XEr.sub g0 e)⟩))))))
          have hk_m := Imm.mono g35 hk_m
          have h_product := Imm.mono g35 h_product
          have h21 := Imm.mono g35 h21
          have h23 := Imm.mono g35 h23
          have g0 := g0.of0' g35
          have gl7 := gl7.of0' g35
          have gl31 := gl31.of0' g35
          refine rd_gn ?_
          exact hN27 _ _ _ ⟨_, rfl, gl31, h37⟩ hm
        have hm := ifF e32 (wp_iteB hm)
        exact rd_next (hN27 _ _ _ ⟨_, rfl, gl31, h21⟩ hm)
      obtain ⟨w40, rfl, g39, h41⟩ := hr30
      have hk_m := Imm.mono g39 hk_m
      have h_product := Imm.mono g39 h_product
      have h23 := Imm.mono g39 h23
      have g0 := Gr.of0' g0 g39
      have gl7 := Gr.of0' gl7 g39
      refine rd_seq (rd_asg (rd_op (rd_var rfl (rd_c (rd_rI ⟨by decide, by decide⟩ (rd_gn ?_))))))
      refine rd_nx ?_
      refine rd_if (rd_T (rd_op (rd_var rfl (rd_c (rd_rI0 (rd_kB ?_))))))
      refine iteB (fun e42 => ?_) (fun e42 => ?_)
      · have hm := ifT e42 (wp_iteB hm)
        refine rd_asg (rd_act rfl (rd_cons (rd_var rfl (rd_cons (rd_var rfl (rd_nil ⟨h_product, _, _, _, _, _, _, _, rfl, rfl, hk_m, h23, h23, wp_imp (wp_bind hm) (fun t43 hm v46 H44 g45 h47 => ?_) (fun _ e => XEr.sub g0 e)⟩))))))
        have hk_m := Imm.mono g45 hk_m
        have h_product := Imm.mono g45 h_product
        have h23 := Imm.mono g45 h23
        have h41 := Imm.mono g45 h41
        have g0 := g0.of0' g45
        have gl7 := gl7.of0' g45
        refine rd_gn ?_
        exact hm _ _ ⟨_, _, rfl, gl7, h41, h47⟩
      have hm := ifF e42 (wp_iteB hm)
      exact rd_next (hm _ _ ⟨_, _, rfl, gl7, h41, h23⟩)
    obtain ⟨w49, w51, rfl, g48, h50, h52⟩ := hr6
    have hk_m := Imm.mono g48 hk_m
    have h_product := Imm.mono g48 h_product
    have g0 := Gr.of0' g0 g48
    exact rd_ret (rd_var rfl (hm _ _ g0 h50))

abbrev s_power_row : Stmt := topS 27
abbrev n_power_row : List Str := ["a", "k", "m", "p", "start"]
theorem sc_power_row : FnScope n_power_row ["a", "k", "m", "p"] (defScope s_power_row) := ⟨rfl, rfl, rfl, by decide +kernel, rfl, by decide +kernel, by decide +kernel⟩
def m_power_row (a_a : (List Int)) (a_k : Int) (a_m : (List Int)) (a_p : Int) : R (List Int) :=
  (m_divide_rows a_a a_m a_p).bind fun t1 => (m_by_squaring ([(1 : Int)]) t1.2 a_k (m_lam1 a_m a_p)).bind fun t18 => R.ok t18
def sp_power_row (K : PySem.W.Frag) (C : Xc) (TT : List Addr) : Sp := fun vs H Q E => ∃ (a_a : (List Int)) (v_a : V) (a_k : Int) (a_m : (List Int)) (v_m : V) (a_p : Int), vs = [v_a, (.int a_k), v_m, (.int a_p)] ∧ (rT K rI) H a_a v_a ∧ (rT K rI) H a_m v_m ∧ TabsA TT H ∧ wp (m_power_row a_a a_k a_m a_p) (fun r => ∀ v H', Gr [] H H' → (rT K rI) H' r v → Q v H') (XEr C [] H E)
theorem ok_power_row {P : Program} {w : World} {K : PySem.W.Frag} {mg : Str → Option Value} {base : Heap} {f : Addr} {fd : FuncData} {c_fault c_zd c_mal c_refu : Addr} {TT : List Addr} {cT PT : Addr} (F : FunT K "power_row" "power_row" s_power_row f fd cT PT) (TB : LamX.TabB base mg cT PT) (hPT : PT ∈ TT) (c_divide_rows : Cal P w K mg base (CX P w) 3 "divide_rows" ["a", "b", "p"] (sp_divide_rows K (⟨some c_fault, some c_zd, some c_mal, some c_refu, none⟩ : Xc))) (c_by_squaring : CalC P w K mg base (CX P w) 5 "by_squaring" ["one", "base", "k", "product"] lw_lam1 ["m", "p"] (sp_by_squaring K (⟨some c_fault, some c_zd, some c_mal, some c_refu, none⟩ : Xc))) : FnOk P w K mg base (CX P w) 6 f fd ["a", "k", "m", "p"] (sp_power_row K (⟨some c_fault, some c_zd, some c_mal, some c_refu, none⟩ : Xc) TT) := by
  obtain ⟨f_divide_rows, fd_divide_rows, G_divide_rows, g_divide_rows, k_divide_rows, b_divide_rows⟩ := c_divide_rows
  obtain ⟨f_by_squaring, fd_by_squaring, G_by_squaring, g_by_squaring, k_by_squaring, b_by_squaring⟩ := c_by_squaring
  refine funT_okX F sc_power_row (fun vs H Q E h => ?_) (fun A outer s H0 vs Q E hr h => ?_)
  · obtain ⟨a_a, v_a, a_k, a_m, v_m, a_p, rfl, h_a, h_m, hTT, hm⟩ := h
    rfl
  · obtain ⟨a_a, v_a, a_k, a_m, v_m, a_p, rfl, h_a, h_m, hTT, hm⟩ := h
    have hm : wp (m_power_row a_a a_k a_m a_p) _ _ := hm
    unfold m_power_row at hm
    refine ⟨_, (pss_cons (ps_set (i := 4) sc_power_row.nd rfl (Or.inl rfl) (pe_ix (ix_tupK (K := K) rfl) (pe_callS G_divide_rows (hr.mono (by decide)) (by rfl) g_divide_rows k_divide_rows b_divide_rows (fun σ => passAt (takes_of rfl rfl rfl rfl) σ) (pa_cons (pv 0) (pa_cons (pv 2) (pa_cons (pv 3) pa_nil)))) pe_int (fun _ _ => rfl))) (pss_one (ps_ret (pe_callL (js := [2, 3]) G_by_squaring (hr.mono (by decide)) (by rfl) g_by_squaring k_by_squaring b_by_squaring (fun σ => passAt (takes_of rfl rfl rfl rfl) σ) (fun ok => Caps.made ok (ndef_free ndb_lam1) (ndef_fr ndb_lam1) rfl) (pl_cons (pe_tup (pa_cons pe_int pa_nil)) (pl_cons (pv 4) (pl_cons (pv 1) (pl_nil (L := lw_lam1) TB rfl rfl (by decide +kernel) rfl (ndef_free ndb_lam1))))))))), ?_⟩
    have g0 := Gr.refl (A := []) H0
    refine rd_seq (rd_asg (rd_op (rd_callS (rd_cons (rd_var rfl (rd_cons (rd_var rfl (rd_cons (rd_var rfl (rd_nil ⟨_, _, _, _, _, rfl, h_a, h_m, wp_imp (wp_bind hm) (fun t1 hm v4 H2 g3 h5 => ?_) (fun _ e => XEr.sub g0 e)⟩))))))))))
    have h_a := Imm.mono g3 h_a
    have h_m := Imm.mono g3 h_m
    have g0 := g0.of0' g3
    refine rd_c (ix_P21 h5 (by rfl) fun v7 h8 => ?_)
    refine rd_gn ?_
    refine rd_nx ?_
    refine rd_ret (rd_callL (rd_lcons (rd_tup (rd_cons (rd_c (rd_nil (mk_T (K := K) (r := rI) (xs := [(1 : Int)]) (.cons rfl .nil) (by show 1 ≤ sizeLine; decide) fun v9 H10 g11 h12 => ?_)))))))
    have h_m := Imm.mono g11 h_m
    have h8 := Imm.mono g11 h8
    have g0 := g0.of0' g11
    refine rd_lcons (rd_var rfl (rd_lcons (rd_var rfl (rd_lnil (hTT.gr g0 _ hPT) fun lf13 lc14 H15 g16 hc17 => ?_))))
    have h_m := Imm.mono g16 h_m
    have h8 := Imm.mono g16 h8
    have h12 := Imm.mono g16 h12
    have g0 := g0.of0' g16
    refine ⟨_, _, _, _, _, _, _, _, rfl, rfl, h_m, h12, h8, hc17, wp_imp (wp_bind hm) (fun t18 hm v21 H19 g20 h22 => ?_) (fun _ e => XEr.sub g0 e)⟩
    have h_m := Imm.mono g20 h_m
    have h8 := Imm.mono g20 h8
    have g0 := g0.of0' g20
    exact hm _ _ g0 h22

abbrev s_filled_up : Stmt := topS 20
abbrev n_filled_up : List Str := ["items", "length", "zero"]
theorem sc_filled_up : FnScope n_filled_up ["items", "length", "zero"] (defScope s_filled_up) := ⟨rfl, rfl, rfl, by decide +kernel, rfl, by decide +kernel, by decide +kernel⟩
def m_filled_up (a_items : (List Int)) (a_length : Int) (a_zero : Int) : R (List Int) :=
  grd (([a_zero]).isEmpty = false) <| grd (repOk ([a_zero]) (a_length - ((a_items).length : Int))) <| grd (lenOk (a_items ++ (repL ([a_zero]) (a_length - ((a_items).length : Int))))) <| R.ok (a_items ++ (repL ([a_zero]) (a_length - ((a_items).length : Int))))
def sp_filled_up (K : PySem.W.Frag) : Sp := fun vs H Q _ => ∃ (a_items : (List Int)) (v_items : V) (a_length : Int) (a_zero : Int), vs = [v_items, (.int a_length), (.int a_zero)] ∧ (rT K rI) H a_items v_items ∧ wp (m_filled_up a_items a_length a_zero) (fun r => ∀ v H', Gr [] H H' → (rT K rI) H' r v → Q v H') (fun _ => False)
theorem ok_filled_up {P : Program} {w : World} {K : PySem.W.Frag} {mg : Str → Option Value} {base : Heap} {f : Addr} {fd : FuncData} (F : Fun K "filled_up" "filled_up" s_filled_up f fd) (z_tuple : mg "tuple" = none) (z_len : mg "len" = none) : FnOk P w K mg base CX0 1 f fd ["items", "length", "zero"] (sp_filled_up K) := by
  refine F.ok sc_filled_up (fun vs H Q E h => ?_) (fun cdv A outer s H0 vs Q E hr h => ?_)
  · obtain ⟨a_items, v_items, a_length, a_zero, rfl, h_items, hm⟩ := h
    rfl
  · obtain ⟨a_items, v_items, a_length, a_zero, rfl, h_items, hm⟩ := h
    have hm : wp (m_filled_up a_items a_length a_zero) _ _ := hm
    unfold m_filled_up at hm
    refine ⟨_, (pss_one (ps_ret (pe_op (catAK (K := K) rfl) (pe_callTy (tupleK (K := K) rfl) (by rfl) z_tuple (by decide +kernel) (pa_cons (pv 0) pa_nil)) (pe_op (op_repA (K := K) rfl) (pe_tup (pa_cons (pv 2) pa_nil)) (pe_op op_sub (pv 1) (pe_callB (lenK (K := K) rfl) (by rfl) z_len PySem.boot_len (pa_cons (pv 0) pa_nil))))))), ?_⟩
    have g0 := Gr.refl (A := []) H0
    refine rd_ret (rd_op (rd_cb (rd_cons (rd_var rfl (rd_nil (tup_of_T h_items (rd_op (rd_tup (rd_cons (rd_var rfl (rd_nil (mk_T (K := K) (r := rI) (xs := [a_zero]) (.cons rfl .nil) (by show 1 ≤ sizeLine; decide) fun v1 H2 g3 h4 => ?_))))))))))))
    have h_items := Imm.mono g3 h_items
    have g0 := g0.of0' g3
    obtain ⟨c5, hm⟩ := wp_grd hm
    obtain ⟨c6, hm⟩ := wp_grd hm
    refine rd_op (rd_var rfl (rd_cb (rd_cons (rd_var rfl (rd_nil (len_T h_items (rd_rI0 (rep_T h4 c5 c6 fun v7 H8 g9 h10 => ?_))))))))
    have h_items := Imm.mono g9 h_items
    have g0 := g0.of0' g9
    obtain ⟨c11, hm⟩ := wp_grd hm
    refine cat_TA h_items h10 c11 fun v12 H13 g14 h15 => ?_
    have h_items := Imm.mono g14 h_items
    have g0 := g0.of0' g14
    exact hm _ _ g0 h15

abbrev s_filled_up_2 : Stmt := topS 20
abbrev n_filled_up_2 : List Str := ["items", "length", "zero"]
theorem sc_filled_up_2 : FnScope n_filled_up_2 ["items", "length", "zero"] (defScope s_filled_up_2) := ⟨rfl, rfl, rfl, by decide +kernel, rfl, by decide +kernel, by decide +kernel⟩
def m_filled_up_2 (a_items : (List Int)) (a_length : Int) (a_zero : Int) : R (List Int) :=
  grd (([a_zero]).isEmpty = false) <| grd (repOk ([a_zero]) (a_length - ((a_items).length : Int))) <| grd (lenOk (a_items ++ (repL ([a_zero]) (a_length - ((a_items).length : Int))))) <| R.ok (a_items ++ (repL ([a_zero]) (a_length - ((a_items).length : Int))))
def sp_filled_up_2 (K : PySem.W.Frag) : Sp := fun vs H Q _ => ∃ (a_items : (List Int)) (p_items : Addr) (a_length : Int) (a_zero : Int), vs = [.ref p_items, (.int a_length), (.int a_zero)] ∧ Ls rI H p_items a_items ∧ wp (m_filled_up_2 a_items a_length a_zero) (fun r => ∀ v H', Gr [] H H' → (rT K rI) H' r v → Q v H') (fun _ => False)
theorem ok_filled_up_2 {P : Program} {w : World} {K : PySem.W.Frag} {mg : Str → Option Value} {base : Heap} {f : Addr} {fd : FuncData} (F : Fun K "filled_up" "filled_up" s_filled_up_2 f fd) (z_tuple : mg "tuple" = none) (z_len : mg "len" = none) : FnOk P w K mg base CX0 1 f fd ["items", "length", "zero"] (sp_filled_up_2 K) := by
  refine F.ok sc_filled_up_2 (fun vs H Q E h => ?_) (fun cdv A outer s H0 vs Q E hr h => ?_)
  · obtain ⟨a_items, p_items, a_length, a_zero, rfl, h_items, hm⟩ := h
    rfl
  · obtain ⟨a_items, p_items, a_length, a_zero, rfl, h_items, hm⟩ := h
    have hm : wp (m_filled_up_2 a_items a_length a_zero) _ _ := hm
    unfold m_filled_up_2 at hm
    refine ⟨_, (pss_one (ps_ret (pe_op (catAK (K := K) rfl) (pe_callTy (tupleK (K := K) rfl) (by rfl) z_tuple (by decide +kernel) (pa_cons (pv 0) pa_nil)) (pe_op (op_repA (K := K) rfl) (pe_tup (pa_cons (pv 2) pa_nil)) (pe_op op_sub (pv 1) (pe_callB (lenK (K := K) rfl) (by rfl) z_len PySem.boot_len (pa_cons (pv 0) pa_nil))))))), ?_⟩
    have g0 := Gr.refl (A := []) H0
    refine rd_ret (rd_op (rd_cb (rd_cons (rd_var rfl (rd_nil (tup_of_L (K := K) (Ls.q h_items) fun v1 H2 g3 h4 => ?_))))))
    have h_items := Ls.g0 g3 h_items
    have g0 := g0.of0' g3
    refine rd_op (rd_tup (rd_cons (rd_var rfl (rd_nil (mk_T (K := K) (r := rI) (xs := [a_zero]) (.cons rfl .nil) (by show 1 ≤ sizeLine; decide) fun v5 H6 g7 h8 => ?_)))))
    have h_items := Ls.g0 g7 h_items
    have h4 := Imm.mono g7 h4
    have g0 := g0.of0' g7
    obtain ⟨c9, hm⟩ := wp_grd hm
    obtain ⟨c10, hm⟩ := wp_grd hm
    refine rd_op (rd_var rfl (rd_cb (rd_cons (rd_var rfl (rd_nil (len_L (Ls.q h_items) (rd_rI0 (rep_T h8 c9 c10 fun v11 H12 g13 h14 => ?_))))))))
    have h_items := Ls.g0 g13 h_items
    have h4 := Imm.mono g13 h4
    have g0 := g0.of0' g13
    obtain ⟨c15, hm⟩ := wp_grd hm
    refine cat_TA h4 h14 c15 fun v16 H17 g18 h19 => ?_
    have h_items := Ls.g0 g18 h_items
    have g0 := g0.of0' g18
    exact hm _ _ g0 h19

abbrev s_add_rows : Stmt := topS 22
abbrev n_add_rows : List Str := ["a", "b", "p", "length", "x", "y"]
theorem sc_add_rows : FnScope n_add_rows ["a", "b", "p"] (defScope s_add_rows) := ⟨rfl, rfl, rfl, by decide +kernel, rfl, by decide +kernel, by decide +kernel⟩
def m_add_rows_b1 (s28 : List Int) (x29 : (Int × Int)) : R (List Int) :=
  grd (lenLt s28) <| R.ok (s28 ++ [(x29.1 + x29.2)])
def m_add_rows (a_a : (List Int)) (a_b : (List Int)) (a_p : Int) : R (List Int) :=
  (m_filled_up a_a (pmax ((a_a).length : Int) ((a_b).length : Int)) (0 : Int)).bind fun t1 => (m_filled_up_2 a_b (pmax ((a_a).length : Int) ((a_b).length : Int)) (0 : Int)).bind fun t6 => (foldR m_add_rows_b1 ([]) (t1.zip t6)).bind fun s35 => (m_trimmed s35 a_p).bind fun t56 => R.ok t56
def sp_add_rows (K : PySem.W.Frag) : Sp := fun vs H Q _ => ∃ (a_a : (List Int)) (v_a : V) (a_b : (List Int)) (p_b : Addr) (a_p : Int), vs = [v_a, .ref p_b, (.int a_p)] ∧ (rT K rI) H a_a v_a ∧ Ls rI H p_b a_b ∧ wp (m_add_rows a_a a_b a_p) (fun r => ∀ v H', Gr [] H H' → (rT K rI) H' r v → Q v H') (fun _ => False)
theorem ok_add_rows {P : Program} {w : World} {K : PySem.W.Frag} {mg : Str → Option Value} {base : Heap} {f : Addr} {fd : FuncData} (F : Fun K "add_rows" "add_rows" s_add_rows f fd) (z_len : mg "len" = none) (z_max : mg "max" = none) (z_zip : mg "zip" = none) (c_filled_up : Cal P w K mg base CX0 1 "filled_up" ["items", "length", "zero"] (sp_filled_up K)) (c_filled_up_2 : Cal P w K mg base CX0 1 "filled_up" ["items", "length", "zero"] (sp_filled_up_2 K)) (c_trimmed : Cal P w K mg base CX0 2 "trimmed" ["row", "p"] (sp_trimmed K)) : FnOk P w K mg base CX0 3 f fd ["a", "b", "p"] (sp_add_rows K) := by
  obtain ⟨f_filled_up, fd_filled_up, G_filled_up, g_filled_up, k_filled_up, b_filled_up⟩ := c_filled_up
  obtain ⟨f_filled_up_2, fd_filled_up_2, G_filled_up_2, g_filled_up_2, k_filled_up_2, b_filled_up_2⟩ := c_filled_up_2
  obtain ⟨f_trimmed, fd_trimmed, G_trimmed, g_trimmed, k_trimmed, b_trimmed⟩ := c_trimmed
  refine F.ok sc_add_rows (fun vs H Q E h => ?_) (fun cdv A outer s H0 vs Q E hr h => ?_)
  · obtain ⟨a_a, v_a, a_b, p_b, a_p, rfl, h_a, h_b, hm⟩ := h
    rfl
  · obtain ⟨a_a, v_a, a_b, p_b, a_p, rfl, h_a, h_b, hm⟩ := h
    have hm : wp (m_add_rows a_a a_b a_p) _ _ := hm
    unfold m_add_rows at hm
    refine ⟨_, (pss_cons (ps_set (i := 3) sc_add_rows.nd rfl (Or.inl rfl) (pe_callB (call_max2 rfl) (by rfl) z_max (by decide +kernel) (pa_cons (pe_callB (lenK (K := K) rfl) (by rfl) z_len PySem.boot_len (pa_cons (pv 0) pa_nil)) (pa_cons (pe_callB (lenK (K := K) rfl) (by rfl) z_len PySem.boot_len (pa_cons (pv 1) pa_nil)) pa_nil)))) (pss_one (ps_ret (pe_call G_trimmed (hr.mono (by decide)) (by rfl) g_trimmed k_trimmed b_trimmed .nil pass0 (pa_cons (pe_lc (own := [("x", 4), ("y", 5)]) (g := (gTup K 2 (gCons (gName 4) (gCons (gName 5) gNil)))) (tt := tYes) rfl sc_add_rows.nd (pi_zipK (K := K) (by rfl) z_zip (pa_cons (pe_call G_filled_up (hr.mono (by decide)) (by rfl) g_filled_up k_filled_up b_filled_up .nil pass0 (pa_cons (pv 0) (pa_cons (pv 3) (pa_cons pe_int pa_nil)))) (pa_cons (pe_call G_filled_up_2 (hr.mono (by decide)) (by rfl) g_filled_up_2 k_filled_up_2 b_filled_up_2 .nil pass0 (pa_cons (pv 1) (pa_cons (pv 3) (pa_cons pe_int pa_nil)))) pa_nil)) rfl) (blkOk_by (own := [("x", 4), ("y", 5)]) (N := n_add_rows) (sc := defScope s_add_rows) (by decide +kernel)) (fun _ _ _ _ _ => pg_tup rfl (pgs_cons (pg_name (i := 4) sc_add_rows.nd rfl (Or.inl rfl) (Or.inr rfl)) (pgs_cons (pg_name (i := 5) sc_add_rows.nd rfl (Or.inl rfl) (Or.inr rfl)) pgs_nil))) (fun _ _ _ _ _ => pts_nil) (fun _ _ _ _ _ => (pe_op op_add (pv 4) (pv 5)))) (pa_cons (pv 2) pa_nil)))))), ?_⟩
    have g0 := Gr.refl (A := []) H0
    refine rd_seq (rd_asg (rd_cb (rd_cons (rd_cb (rd_cons (rd_var rfl (rd_nil (len_T h_a (rd_cons (rd_cb (rd_cons (rd_var rfl (rd_nil (len_L (Ls.q h_b) (rd_nil (rd_max (rd_gn ?_)))))))))))))))))
    refine rd_nx ?_
    refine rd_ret (rd_call (rd_cons (rd_lc (rd_izip (rd_cons (rd_call (rd_cons (rd_var rfl (rd_cons (rd_var rfl (rd_cons (rd_c (rd_nil ⟨_, _, _, _, rfl, h_a, wp_imp (wp_bind hm) (fun t1 hm v4 H2 g3 h5 => ?_) (fun _ e => e)⟩)))))))))))))
    have h_a := Imm.mono g3 h_a
    have h_b := Ls.g0 g3 h_b
    have g0 := g0.of0' g3
    refine rd_cons (rd_call (rd_cons (rd_var rfl (rd_cons (rd_var rfl (rd_cons (rd_c (rd_nil ⟨_, _, _, _, rfl, h_b, wp_imp (wp_bind hm) (fun t6 hm v9 H7 g8 h10 => ?_) (fun _ e => e)⟩))))))))
    have h_a := Imm.mono g8 h_a
    have h_b := Ls.g0 g8 h_b
    have h5 := Imm.mono g8 h5
    have g0 := g0.of0' g8
    obtain ⟨a11, ea15, vs12, hl13, hp14⟩ := id h5
    obtain ⟨a16, ea20, vs17, hl18, hp19⟩ := id h10
    refine rd_nil (zip_t ea15 ea20 hl13 hl18 (fun p21 n22 => ?_))
    have ne23 : p_b ≠ p21 := Ls.ne h_b n22
    have nw24 := Gr.free g0 n22
    refine lc_R (r := (rP K rI rI)) (H0 := H7) (H1 := H7) (wk_zipT hp14 hp19) (fun (s : List Int) (H : Hp) => Gr [] H7 H ∧ Ls rI H p21 s) (wp_bind hm) ⟨Gr.new n22, ⟨[], upd_same, .nil⟩⟩ (fun _ _ hr => by obtain ⟨g, _⟩ := hr; exact ⟨⟨g.tup hl13, g.tup hl18⟩, _, g⟩) (fun x29 v30 s28 H32 H38 N33 hr34 hg39 hx31 hm => ?_) (fun s35 H36 hr37 hm => ?_)
    · unfold m_add_rows_b1 at hm
      obtain ⟨g40, h41⟩ := hr34
      have h_a := Imm.mono g40 h_a
      have h_b := Ls.gA g40 nin0 h_b
      have g0 := Gr.of0' g0 g40
      have gl42 := g40
      have h_a := Imm.mono hg39 h_a
      have h_b := Ls.g0 hg39 h_b
      have h41 := Ls.g0 hg39 h41
      have g0 := g0.of0' hg39
      have gl42 := gl42.of0' hg39
      obtain ⟨a43, x44, x45, ea49, h46, h47, h48⟩ := id hx31
      obtain rfl := h47
      obtain rfl := h48
      obtain ⟨c50, hm⟩ := wp_grd hm
      refine rd_gtE ea49 h46 rfl (rd_gc (rd_gn (rd_gc (rd_gn (rd_g0 ⟨rfl, rd_yes (iteT (rd_op (rd_var rfl (rd_var rfl (rd_rI0 (lc_add h41 rfl c50 fun H51 g52 h53 => ?_))))))⟩)))))
      have h_a := Imm.mono g52 h_a
      have h_b := Ls.g1 g52 ne23 h_b
      have g0 := Gr.loc g0 nw24 g52
      have gl42 := Gr.loc gl42 n22 g52
      exact hm _ ⟨gl42, h53⟩
    obtain ⟨g54, h55⟩ := hr37
    have h_a := Imm.mono g54 h_a
    have h_b := Ls.gA g54 nin0 h_b
    have g0 := Gr.of0' g0 g54
    refine rd_cons (rd_var rfl (rd_nil ⟨_, _, _, rfl, h55, wp_imp (wp_bind hm) (fun t56 hm v59 H57 g58 h60 => ?_) (fun _ e => e)⟩))
    have h_a := Imm.mono g58 h_a
    have h_b := Ls.g0 g58 h_b
    have g0 := g0.of0' g58
    exact hm _ _ g0 h60

abbrev s_subtract_rows : Stmt := topS 23
abbrev n_subtract_rows : List Str := ["a", "b", "p", "item"]
theorem sc_subtract_rows : FnScope n_subtract_rows ["a", "b", "p"] (defScope s_subtract_rows) := ⟨rfl, rfl, rfl, by decide +kernel, rfl, by decide +kernel, by decide +kernel⟩
def m_subtract_rows_b1 (s12 : List Int) (x13 : Int) : R (List Int) :=
  grd (lenLt s12) <| R.ok (s12 ++ [(-x13)])
def m_subtract_rows (a_a : (List Int)) (a_b : (List Int)) (a_p : Int) : R (List Int) :=
  (foldR m_subtract_rows_b1 ([]) a_b).bind fun s19 => (m_add_rows a_a s19 a_p).bind fun t31 => R.ok t31
def sp_subtract_rows (K : PySem.W.Frag) : Sp := fun vs H Q _ => ∃ (a_a : (List Int)) (v_a : V) (a_b : (List Int)) (v_b : V) (a_p : Int), vs = [v_a, v_b, (.int a_p)] ∧ (rT K rI) H a_a v_a ∧ (rT K rI) H a_b v_b ∧ wp (m_subtract_rows a_a a_b a_p) (fun r => ∀ v H', Gr [] H H' → (rT K rI) H' r v → Q v H') (fun _ => False)
theorem ok_subtract_rows {P : Program} {w : World} {K : PySem.W.Frag} {mg : Str → Option Value} {base : Heap} {f : Addr} {fd : FuncData} (F : Fun K "subtract_rows" "subtract_rows" s_subtract_rows f fd) (c_add_rows : Cal P w K mg base CX0 3 "add_rows" ["a", "b", "p"] (sp_add_rows K)) : FnOk P w K mg base CX0 4 f fd ["a", "b", "p"] (sp_subtract_rows K) := by
  obtain ⟨f_add_rows, fd_add_rows, G_add_rows, g_add_rows, k_add_rows, b_add_rows⟩ := c_add_rows
  refine F.ok sc_subtract_rows (fun vs H Q E h => ?_) (fun cdv A outer s H0 vs Q E hr h => ?_)
  · obtain ⟨a_a, v_a, a_b, v_b, a_p, rfl, h_a, h_b, hm⟩ := h
    rfl
  · obtain ⟨a_a, v_a, a_b, v_b, a_p, rfl, h_a, h_b, hm⟩ := h
    have hm : wp (m_subtract_rows a_a a_b a_p) _ _ := hm
    unfold m_subtract_rows at hm
    refine ⟨_, (pss_one (ps_ret (pe_call G_add_rows (hr.mono (by decide)) (by rfl) g_add_rows k_add_rows b_add_rows .nil pass0 (pa_cons (pv 0) (pa_cons (pe_lc (own := [("item", 3)]) (g := gName 3) (tt := tYes) rfl sc_subtract_rows.nd (pi_tupK (K := K) (pv 1) rfl) (blkOk_by (own := [("item", 3)]) (N := n_subtract_rows) (sc := defScope s_subtract_rows) (by decide +kernel)) (fun _ _ _ _ _ => pg_name (i := 3) sc_subtract_rows.nd rfl (Or.inl rfl)) (fun _ _ _ _ _ => pts_nil) (fun _ _ _ _ _ => (pe_un un_neg (pv 3)))) (pa_cons (pv 2) pa_nil)))))), ?_⟩
    have g0 := Gr.refl (A := []) H0
    obtain ⟨a4, ea5, vs1, hl2, hp3⟩ := id h_b
    refine rd_ret (rd_call (rd_cons (rd_var rfl (rd_cons (rd_lc (rd_it (rd_var rfl ⟨_, ea5, ⟨_, hl2⟩, fun p6 n7 => ?_⟩)))))))
    have nw8 := Gr.free g0 n7
    refine lc_tup (r := rI) (H1 := H0) (fun (s : List Int) (H : Hp) => Gr [] H0 H ∧ Ls rI H p6 s) hp3 (wp_bind hm) ⟨Gr.new n7, ⟨[], upd_same, .nil⟩⟩ (fun _ _ hr => by obtain ⟨g, _⟩ := hr; exact g.tup hl2) (fun x13 v14 s12 H16 N17 hx15 hr18 hm => ?_) (fun s19 H20 hr21 hm => ?_)
    · unfold m_subtract_rows_b1 at hm
      obtain ⟨g22, h23⟩ := hr18
      have h_a := Imm.mono g22 h_a
      have h_b := Imm.mono g22 h_b
      have g0 := Gr.of0' g0 g22
      have gl24 := g22
      obtain rfl := hx15
      obtain ⟨c25, hm⟩ := wp_grd hm
      refine rd_gn ⟨rfl, rd_yes (iteT (rd_un (rd_var rfl (rd_rU (lc_add h23 rfl c25 fun H26 g27 h28 => ?_)))))⟩
      have h_a := Imm.mono g27 h_a
      have h_b := Imm.mono g27 h_b
      have g0 := Gr.loc g0 nw8 g27
      have gl24 := Gr.loc gl24 n7 g27
      exact hm _ ⟨gl24, h28⟩
    obtain ⟨g29, h30⟩ := hr21
    have h_a := Imm.mono g29 h_a
    have h_b := Imm.mono g29 h_b
    have g0 := Gr.of0' g0 g29
    refine rd_cons (rd_var rfl (rd_nil ⟨_, _, _, _, _, rfl, h_a, h30, wp_imp (wp_bind hm) (fun t31 hm v34 H32 g33 h35 => ?_) (fun _ e => e)⟩))
    have h_a := Imm.mono g33 h_a
    have h_b := Imm.mono g33 h_b
    have g0 := g0.of0' g33
    exact hm _ _ g0 h35

abbrev s_common_row : Stmt := topS 26
abbrev n_common_row : List Str := ["a", "b", "p", "divisor", "rest"]
theorem sc_common_row : FnScope n_common_row ["a", "b", "p"] (defScope s_common_row) := ⟨rfl, rfl, rfl, by decide +kernel, rfl, by decide +kernel, by decide +kernel⟩
def m_common_row_b1 (s10 : (List Int) × (List Int)) : R Bool :=
  R.ok (!(s10.2).isEmpty)
def m_common_row_b2 (a_p : Int) (s10 : (List Int) × (List Int)) : R ((List Int) × (List Int)) :=
  (m_divide_rows s10.1 s10.2 a_p).bind fun t25 => R.ok (s10.2, t25.2)
def m_common_row (a_a : (List Int)) (a_b : (List Int)) (a_p : Int) : R (List Int) :=
  (whileR m_common_row_b1 (m_common_row_b2 a_p) 100000 (a_a, a_b)).bind fun s4 => if (!(!(s4.1).isEmpty)) = true then (R.ok ([])) else ((getL s4.1 (-(1 : Int))).bind fun t43 => (m_inverse_modulo t43 a_p).bind fun t46 => (noEr (m_multiply_rows s4.1 ([t46]) a_p)).bind fun t53 => R.ok t53)
def sp_common_row (K : PySem.W.Frag) (C : Xc) : Sp := fun vs H Q E => ∃ (a_a : (List Int)) (v_a : V) (a_b : (List Int)) (v_b : V) (a_p : Int), vs = [v_a, v_b, (.int a_p)] ∧ (rT K rI) H a_a v_a ∧ (rT K rI) H a_b v_b ∧ wp (m_common_row a_a a_b a_p) (fun r => ∀ v H', Gr [] H H' → (rT K rI) H' r v → Q v H') (XEr C [] H E)
theorem ok_common_row {P : Program} {w : World} {K : PySem.W.Frag} {mg : Str → Option Value} {base : Heap} {f : Addr} {fd : FuncData} {c_fault c_zd c_mal c_refu : Addr} (F : Fun K "common_row" "common_row" s_common_row f fd) (c_divide_rows : Cal P w K mg base (CX P w) 3 "divide_rows" ["a", "b", "p"] (sp_divide_rows K (⟨some c_fault, some c_zd, some c_mal, some c_refu, none⟩ : Xc))) (c_inverse_modulo : Cal P w K mg base (CX P w) 2 "inverse_modulo" ["a", "m"] (sp_inverse_modulo K (⟨some c_fault, some c_zd, some c_mal, some c_refu, none⟩ : Xc))) (c_multiply_rows : Cal P w K mg base CX0 3 "multiply_rows" ["a", "b", "p"] (sp_multiply_rows K)) : FnOk P w K mg base (CX P w) 4 f fd ["a", "b", "p"] (sp_common_row K (⟨some c_fault, some c_zd, some c_mal, some c_refu, none⟩ : Xc)) := by
  obtain ⟨f_divide_rows, fd_divide_rows, G_divide_rows, g_divide_rows, k_divide_rows, b_divide_rows⟩ := c_divide_rows
  obtain ⟨f_inverse_modulo, fd_inverse_modulo, G_inverse_modulo, g_inverse_modulo, k_inverse_modulo, b_inverse_modulo⟩ := c_inverse_modulo
  obtain ⟨f_multiply_rows, fd_multiply_rows, G_multiply_rows, g_multiply_rows, k_multiply_rows, b_multiply_rows⟩ := c_multiply_rows
  refine F.okX sc_common_row (fun vs H Q E h => ?_) (fun cdv A outer s H0 vs Q E hr h => ?_)
  · obtain ⟨a_a, v_a, a_b, v_b, a_p, rfl, h_a, h_b, hm⟩ := h
    rfl
  · obtain ⟨a_a, v_a, a_b, v_b, a_p, rfl, h_a, h_b, hm⟩ := h
    have hm : wp (m_common_row a_a a_b a_p) _ _ := hm
    unfold m_common_row at hm
    refine ⟨_, (pss_cons (ps_par (i := 3) (j := 4) rfl sc_common_row.nd rfl rfl (by decide) rfl rfl (pa_cons (pv 0) (pa_cons (pv 1) pa_nil)) (by rfl)) (pss_cons (ps_while PassesOwn.leaving (pt_tru (K := K) (pv 4) rfl) (pss_one (ps_par (i := 3) (j := 4) rfl sc_common_row.nd rfl rfl (by decide) rfl rfl (pa_cons (pv 4) (pa_cons (pe_ix (ix_tupK (K := K) rfl) (pe_callS G_divide_rows (hr.mono (by decide)) (by rfl) g_divide_rows k_divide_rows b_divide_rows (fun σ => passAt (takes_of rfl rfl rfl rfl) σ) (pa_cons (pv 3) (pa_cons (pv 4) (pa_cons (pv 2) pa_nil)))) pe_int (fun _ _ => rfl)) pa_nil)) (by rfl)))) (pss_cons (ps_if (pt_not (pt_tru (K := K) (pv 3) rfl)) (pss_one (ps_ret (pe_tup pa_nil))) pss_nil) (pss_one (ps_ret (pe_call G_multiply_rows (hr.mono (by decide)) (by rfl) g_multiply_rows k_multiply_rows b_multiply_rows .nil pass0 (pa_cons (pv 3) (pa_cons (pe_tup (pa_cons (pe_callS G_inverse_modulo (hr.mono (by decide)) (by rfl) g_inverse_modulo k_inverse_modulo b_inverse_modulo (fun σ => passAt (takes_of rfl rfl rfl rfl) σ) (pa_cons (pe_ix (ix_tupK (K := K) rfl) (pv 3) (pe_un un_neg pe_int) (fun _ _ => rfl)) (pa_cons (pv 2) pa_nil))) pa_nil)) (pa_cons (pv 2) pa_nil))))))))), ?_⟩
    have g0 := Gr.refl (A := []) H0
    refine rd_seq (rd_par (rd_cons (rd_var rfl (rd_cons (rd_var rfl (rd_nil (rd_kp2 ?_)))))))
    refine rd_nx ?_
    refine seq_join (t := tWhile _ _) (wp_bind hm) (fun (s : (List Int) × (List Int)) (σ : L2.St) (H : Hp) => ∃ (w8 : V) (w9 : V), σ = [some v_a, some v_b, some (.int a_p), some w8, some w9] ∧ Gr [] H0 H ∧ (rT K rI) H s.1 w8 ∧ (rT K rI) H s.2 w9) (fun N2 hN3 hm => ?_) (fun s4 σ H5 hr6 hm => ?_)
    · have gl7 := Gr.refl (A := []) H0
      refine whl_R (fun (s : (List Int) × (List Int)) (σ : L2.St) (H : Hp) => ∃ (w8 : V) (w9 : V), σ = [some v_a, some v_b, some (.int a_p), some w8, some w9] ∧ Gr [] H0 H ∧ (rT K rI) H s.1 w8 ∧ (rT K rI) H s.2 w9) (by exact wp_N hm (fun s σ' H' hr hz => hN3 s σ' H' hr hz)) ⟨_, _, rfl, gl7, h_a, h_b⟩ (fun s10 σ H11 N13 W14 m15 hW16 hr12 hm => ?_)
      unfold m_common_row_b1 at hm
      obtain ⟨w20, w22, rfl, g19, h21, h23⟩ := hr12
      have g0 := Gr.of0' g0 g19
      have gl7 := Gr.of0' gl7 g19
      refine rd_Tru (rd_var rfl (tru_T h23 ?_))
      refine iteB' (fun e24 => ?_) (fun e24 => ?_)
      · exact ifF e24 hm _ _ ⟨_, _, rfl, gl7, h21, h23⟩
      have hm := ifT e24 hm
      unfold m_common_row_b2 at hm
      refine ⟨N13, hW16, ?_⟩
      refine rd_par (rd_cons (rd_var rfl (rd_cons (rd_op (rd_callS (rd_cons (rd_var rfl (rd_cons (rd_var rfl (rd_cons (rd_var rfl (rd_nil ⟨_, _, _, _, _, rfl, h21, h23, wp_imp (wp_bind hm) (fun t25 hm v28 H26 g27 h29 => ?_) (fun _ e => XEr.sub g0 e)⟩))))))))))))
      have h21 := Imm.mono g27 h21
      have h23 := Imm.mono g27 h23
      have g0 := g0.of0' g27
      have gl7 := gl7.of0' g27
      refine rd_c (ix_P21 h29 (by rfl) fun v31 h32 => ?_)
      refine rd_nil (rd_kp2 ?_)
      exact hm _ _ ⟨_, _, rfl, gl7, h23, h32⟩
    obtain ⟨w34, w36, rfl, g33, h35, h37⟩ := hr6
    have g0 := Gr.of0' g0 g33
    refine rd_seq (rd_if (rd_not (rd_Tru (rd_var rfl (tru_T h35 ?_)))))
    refine iteB (fun e38 => ?_) (fun e38 => ?_)
    · have hm := ifT e38 (wp_iteB hm)
      refine rd_ret (rd_tup (rd_nil (mk_T (K := K) (r := rI) (xs := []) .nil (by show 0 ≤ sizeLine; decide) fun v39 H40 g41 h42 => ?_)))
      have h35 := Imm.mono g41 h35
      have g0 := g0.of0' g41
      exact hm _ _ g0 h42
    have hm := ifF e38 (wp_iteB hm)
    refine rd_next (rd_nx ?_)
    refine rd_ret (rd_call (rd_cons (rd_var rfl (rd_cons (rd_tup (rd_cons (rd_callS (rd_cons (rd_op (rd_var rfl (rd_un (rd_c (rd_rU (ix_T h35 (wp_bind hm) fun t43 v44 h45 hm => ?_))))))))))))))
    obtain rfl := h45
    refine rd_cons (rd_var rfl (rd_nil ⟨_, _, rfl, wp_imp (wp_bind hm) (fun t46 hm H47 g48 => ?_) (fun _ e => XEr.sub g0 e)⟩))
    have h35 := Imm.mono g48 h35
    have g0 := g0.of0' g48
    refine rd_nil (mk_T (K := K) (r := rI) (xs := [t46]) (.cons rfl .nil) (by show 1 ≤ sizeLine; decide) fun v49 H50 g51 h52 => ?_)
    have h35 := Imm.mono g51 h35
    have g0 := g0.of0' g51
    refine rd_cons (rd_var rfl (rd_nil ⟨_, _, _, _, _, rfl, h35, h52, wp_imp (wp_bindN hm) (fun t53 hm v56 H54 g55 h57 => ?_) (fun _ e => e)⟩))
    have h35 := Imm.mono g55 h35
    have g0 := g0.of0' g55
    exact hm _ _ g0 h57

abbrev s_is_irreducible_row : Stmt := topS 28
abbrev n_is_irreducible_row : List Str := ["m", "p", "degree", "x", "power", "_"]
theorem sc_is_irreducible_row : FnScope n_is_irreducible_row ["m", "p"] (defScope s_is_irreducible_row) := ⟨rfl, rfl, rfl, by decide +kernel, rfl, by decide +kernel, by decide +kernel⟩
def m_is_irreducible_row_b1 (a_m : (List Int)) (a_p : Int) (s15 : (List Int)) (x21 : Int) : R (Lp ((List Int)) (Bool)) :=
  (m_power_row s15 a_p a_m a_p).bind fun t29 => (noEr (m_subtract_rows t29 ([(0 : Int), (1 : Int)]) a_p)).bind fun t34 => (m_common_row a_m t34 a_p).bind fun t39 => if (decide ((1 : Int) < ((t39).length : Int))) = true then (R.ok (Lp.rt false)) else (R.ok (Lp.nx t29))
def m_is_irreducible_row (a_m : (List Int)) (a_p : Int) : R Bool :=
  if (decide ((((a_m).length : Int) - (1 : Int)) < (1 : Int))) = true then (R.ok false) else ((grd (rgOk ((((a_m).length : Int) - (1 : Int)) / (2 : Int))) <| loopR (m_is_irreducible_row_b1 a_m a_p) ([(0 : Int), (1 : Int)]) (rng 0 (((((a_m).length : Int) - (1 : Int)) / (2 : Int))).toNat)).bind fun o => Le.thn o (fun s9 => R.ok true) (fun r => R.ok r))
def sp_is_irreducible_row (K : PySem.W.Frag) (C : Xc) (TT : List Addr) : Sp := fun vs H Q E => ∃ (a_m : (List Int)) (v_m : V) (a_p : Int), vs = [v_m, (.int a_p)] ∧ (rT K rI) H a_m v_m ∧ TabsA TT H ∧ wp (m_is_irreducible_row a_m a_p) (fun r => ∀ H', Gr [] H H' → Q (.bl r) H') (XEr C [] H E)
theorem ok_is_irreducible_row {P : Program} {w : World} {K : PySem.W.Frag} {mg : Str → Option Value} {base : Heap} {f : Addr} {fd : FuncData} {c_fault c_zd c_mal c_refu : Addr} {TT : List Addr} (F : Fun K "is_irreducible_row" "is_irreducible_row" s_is_irreducible_row f fd) (z_len : mg "len" = none) (z_range : mg "range" = none) (c_power_row : Cal P w K mg base (CX P w) 6 "power_row" ["a", "k", "m", "p"] (sp_power_row K (⟨some c_fault, some c_zd, some c_mal, some c_refu, none⟩ : Xc) TT)) (c_subtract_rows : Cal P w K mg base CX0 4 "subtract_rows" ["a", "b", "p"] (sp_subtract_rows K)) (c_common_row : Cal P w K mg base (CX P w) 4 "common_row" ["a", "b", "p"] (sp_common_row K (⟨some c_fault, some c_zd, some c_mal, some c_refu, none⟩ : Xc))) : FnOk P w K mg base (CX P w) 7 f fd ["m", "p"] (sp_is_irreducible_row K (⟨some c_fault, some c_zd, some c_mal, some c_refu, none⟩ : Xc) TT) := by
  obtain ⟨f_power_row, fd_power_row, G_power_row, g_power_row, k_power_row, b_power_row⟩ := c_power_row
  obtain ⟨f_subtract_rows, fd_subtract_rows, G_subtract_rows, g_subtract_rows, k_subtract_rows, b_subtract_rows⟩ := c_subtract_rows
  obtain ⟨f_common_row, fd_common_row, G_common_row, g_common_row, k_common_row, b_common_row⟩ := c_common_row
  refine F.okX sc_is_irreducible_row (fun vs H Q E h => ?_) (fun cdv A outer s H0 vs Q E hr h => ?_)
  · obtain ⟨a_m, v_m, a_p, rfl, h_m, hTT, hm⟩ := h
    rfl
  · obtain ⟨a_m, v_m, a_p, rfl, h_m, hTT, hm⟩ := h
    have hm : wp (m_is_irreducible_row a_m a_p) _ _ := hm
    unfold m_is_irreducible_row at hm
    refine ⟨_, (pss_cons (ps_set (i := 2) sc_is_irreducible_row.nd rfl (Or.inl rfl) (pe_op op_sub (pe_callB (lenK (K := K) rfl) (by rfl) z_len PySem.boot_len (pa_cons (pv 0) pa_nil)) pe_int)) (pss_cons (ps_if (pt_cmpR op_lt (pv 2) pe_int (nomark _)) (pss_one (ps_ret pe_bl)) pss_nil) (pss_cons (ps_set (i := 3) sc_is_irreducible_row.nd rfl (Or.inl rfl) (pe_tup (pa_cons pe_int (pa_cons pe_int pa_nil)))) (pss_cons (ps_set (i := 4) sc_is_irreducible_row.nd rfl (Or.inl rfl) (pv 3)) (pss_cons (ps_for PassesOwn.leaving rfl (pi_range1 (by rfl) z_range (pa_cons (pe_op op_fdiv (pv 2) pe_int) pa_nil)) (pg_name (i := 5) sc_is_irreducible_row.nd rfl (Or.inl rfl)) (pss_cons (ps_set (i := 4) sc_is_irreducible_row.nd rfl (Or.inl rfl) (pe_callS G_power_row (hr.mono (by decide)) (by rfl) g_power_row k_power_row b_power_row (fun σ => passAt (takes_of rfl rfl rfl rfl) σ) (pa_cons (pv 4) (pa_cons (pv 1) (pa_cons (pv 0) (pa_cons (pv 1) pa_nil)))))) (pss_one (ps_if (pt_cmpR op_gt (pe_callB (lenK (K := K) rfl) (by rfl) z_len PySem.boot_len (pa_cons (pe_callS G_common_row (hr.mono (by decide)) (by rfl) g_common_row k_common_row b_common_row (fun σ => passAt (takes_of rfl rfl rfl rfl) σ) (pa_cons (pv 0) (pa_cons (pe_call G_subtract_rows (hr.mono (by decide)) (by rfl) g_subtract_rows k_subtract_rows b_subtract_rows .nil pass0 (pa_cons (pv 4) (pa_cons (pv 3) (pa_cons (pv 1) pa_nil)))) (pa_cons (pv 1) pa_nil)))) pa_nil)) pe_int (nomark _)) (pss_one (ps_ret pe_bl)) pss_nil)))) (pss_one (ps_ret pe_bl))))))), ?_⟩
    have g0 := Gr.refl (A := []) H0
    refine rd_seq (rd_asg (rd_op (rd_cb (rd_cons (rd_var rfl (rd_nil (len_T h_m (rd_c (rd_rI0 (rd_gn ?_))))))))))
    refine rd_nx ?_
    refine rd_seq (rd_if (rd_T (rd_op (rd_var rfl (rd_c (rd_rI0 (rd_kB ?_)))))))
    refine iteB (fun e1 => ?_) (fun e1 => ?_)
    · have hm := ifT e1 (wp_iteB hm)
      exact rd_ret (rd_c (hm _ g0))
    have hm := ifF e1 (wp_iteB hm)
    refine rd_next (rd_nx ?_)
    refine rd_seq (rd_asg (rd_tup (rd_cons (rd_c (rd_cons (rd_c (rd_nil (mk_T (K := K) (r := rI) (xs := [(0 : Int), (1 : Int)]) (.cons rfl (.cons rfl .nil)) (by show 2 ≤ sizeLine; decide) fun v2 H3 g4 h5 => ?_))))))))
    have h_m := Imm.mono g4 h_m
    have g0 := g0.of0' g4
    refine rd_gn ?_
    refine rd_nx ?_
    refine rd_seq (rd_asg (rd_var rfl (rd_gn ?_)))
    refine rd_nx ?_
    refine seq_joinL (t := tFor _ _ _) (wp_le hm) (fun (s : (List Int)) (σ : L2.St) (H : Hp) => ∃ (w13 : V) (o14 : Option V), σ = [some v_m, some (.int a_p), some (.int (((a_m).length : Int) - (1 : Int))), some v2, some w13, o14] ∧ Gr [] H3 H ∧ (rT K rI) H s w13) (fun N7 hm => ?_) (fun s9 σ H10 hr11 hm => ?_)
    · have gl12 := Gr.refl (A := []) H3
      obtain ⟨c19, hm⟩ := wp_grd hm
      have gl20 := Gr.refl (A := []) H3
      refine rd_for (rd_r1 (rd_cons (rd_op (rd_var rfl (rd_c (rd_rI ⟨by decide, by decide⟩ (rd_nil ⟨_, rfl, c19.1, c19.2, for_rngL (lo := 0) (n := (((((a_m).length : Int) - (1 : Int)) / (2 : Int))).toNat) (fun (s : (List Int)) (σ : L2.St) (H : Hp) => ∃ (w13 : V) (o14 : Option V), σ = [some v_m, some (.int a_p), some (.int (((a_m).length : Int) - (1 : Int))), some v2, some w13, o14] ∧ Gr [] H3 H ∧ (rT K rI) H s w13) (by exact wp_imp hm (fun o ho => leP_imp ho (fun s hz σ' H' hr => hz σ' H' hr) (fun _ h => h)) (fun _ e => e)) ⟨_, _, rfl, gl20, h5⟩ (fun x21 s15 σ H16 N18 hr17 hm => ?_)⟩)))))))
      unfold m_is_irreducible_row_b1 at hm
      obtain ⟨w26, o28, rfl, g25, h27⟩ := hr17
      have h_m := Imm.mono g25 h_m
      have h5 := Imm.mono g25 h5
      have g0 := Gr.of0' g0 g25
      have gl20 := Gr.of0' gl20 g25
      refine rd_gn (rd_seq (rd_asg (rd_callS (rd_cons (rd_var rfl (rd_cons (rd_var rfl (rd_cons (rd_var rfl (rd_cons (rd_var rfl (rd_nil ⟨_, _, _, _, _, _, rfl, h27, h_m, (hTT.gr g0), wp_imp (wp_bind hm) (fun t29 hm v32 H30 g31 h33 => ?_) (fun _ e => XEr.sub g0 e)⟩))))))))))))
      have h_m := Imm.mono g31 h_m
      have h5 := Imm.mono g31 h5
      have h27 := Imm.mono g31 h27
      have g0 := g0.of0' g31
      have gl20 := gl20.of0' g31
      refine rd_gn ?_
      refine rd_nx ?_
      refine rd_if (rd_T (rd_op (rd_cb (rd_cons (rd_callS (rd_cons (rd_var rfl (rd_cons (rd_call (rd_cons (rd_var rfl (rd_cons (rd_var rfl (rd_cons (rd_var rfl (rd_nil ⟨_, _, _, _, _, rfl, h33, h5, wp_imp (wp_bindN hm) (fun t34 hm v37 H35 g36 h38 => ?_) (fun _ e => e)⟩))))))))))))))))
      have h_m := Imm.mono g36 h_m
      have h5 := Imm.mono g36 h5
      have h33 := Imm.mono g36 h33
      have g0 := g0.of0' g36
      have gl20 := gl20.of0' g36
      refine rd_cons (rd_var rfl (rd_nil ⟨_, _, _, _, _, rfl, h_m, h38, wp_imp (wp_bind hm) (fun t39 hm v42 H40 g41 h43 => ?_) (fun _ e => XEr.sub g0 e)⟩))
      have h_m := Imm.mono g41 h_m
      have h5 := Imm.mono g41 h5
      have h33 := Imm.mono g41 h33
      have g0 := g0.of0' g41
      have gl20 := gl20.of0' g41
      refine rd_nil (len_T h43 (rd_c (rd_rI0 (rd_kB ?_))))
      refine iteB (fun e44 => ?_) (fun e44 => ?_)
      · have hm := ifT e44 (wp_iteB hm)
        exact rd_ret (rd_c (hm _ g0))
      have hm := ifF e44 (wp_iteB hm)
      exact rd_next (hm _ _ ⟨_, _, rfl, gl20, h33⟩)
    obtain ⟨w46, o48, rfl, g45, h47⟩ := hr11
    have h_m := Imm.mono g45 h_m
    have h5 := Imm.mono g45 h5
    have g0 := Gr.of0' g0 g45
    exact rd_ret (rd_c (hm _ g0))

abbrev s_check_making : Stmt := topS 33
abbrev n_check_making : List Str := ["p", "modulus", "item"]
theorem sc_check_making : FnScope n_check_making ["p", "modulus"] (defScope s_check_making) := ⟨rfl, rfl, rfl, by decide +kernel, rfl, by decide +kernel, by decide +kernel⟩
def m_check_making_b1 (a_p : Int) (s32 : List Bool) (x33 : Int) : R (List Bool) :=
  (andR ((noEr (m_is_integer (V.int x33))).bind fun t47 => R.ok t47) (R.ok ((decide ((0 : Int) ≤ x33)) && (decide (x33 < a_p))))).bind fun t53 => grd (lenLt s32) <| R.ok (s32 ++ [t53])
def m_check_making (a_p : Int) (a_modulus : (List Int)) : R Unit :=
  (orR ((noEr (m_is_integer (V.int a_p))).bind fun t3 => R.ok (!t3)) ((noEr (m_is_prime a_p)).bind fun t9 => R.ok (!t9))).bind fun t12 => if t12 = true then (R.er .mal) else (if (!(true || false)) = true then (R.er .mal) else ((foldR (m_check_making_b1 a_p) ([]) a_modulus).bind fun s39 => if (!((s39).all id)) = true then (R.er .mal) else ((orR (R.ok (decide (((a_modulus).length : Int) < (2 : Int)))) ((getL a_modulus (-(1 : Int))).bind fun t69 => R.ok (!decide (t69 = (1 : Int))))).bind fun t72 => if t72 = true then (R.er .mal) else ((noEr (m_power_within a_p (((a_modulus).length : Int) - (1 : Int)) (400 : Int))).bind fun t76 => if (t76).isNone = true then R.out else ((m_is_irreducible_row a_modulus a_p).bind fun t82 => if (!t82) = true then (R.er .mal) else (R.ok ()))))))
def sp_check_making (K : PySem.W.Frag) (C : Xc) (TT : List Addr) : Sp := fun vs H Q E => ∃ (a_p : Int) (a_modulus : (List Int)) (v_modulus : V), vs = [(.int a_p), v_modulus] ∧ (rT K rI) H a_modulus v_modulus ∧ TabsA TT H ∧ wp (m_check_making a_p a_modulus) (fun r => ∀ H', Gr [] H H' → Q .non H') (XEr C [] H E)
theorem ok_check_making {P : Program} {w : World} {K : PySem.W.Frag} {mg : Str → Option Value} {base : Heap} {f : Addr} {fd : FuncData} {c_fault c_zd c_mal c_refu : Addr} {TT : List Addr} {tk_MOST_MEMBERS : Tok} (F : Fun K "check_making" "check_making" s_check_making f fd) (z_isinstance : mg "isinstance" = none) (z_tuple : mg "tuple" = none) (z_list : mg "list" = none) (z_all : mg "all" = none) (z_len : mg "len" = none) (Xk_mal : Xk K mg "Malformed" c_mal) (gk_MOST_MEMBERS : mg "MOST_MEMBERS" = some (.int 400 tk_MOST_MEMBERS)) (c_is_integer : Cal P w K mg base CX0 1 "is_integer" ["value"] (sp_is_integer K)) (c_is_prime : Cal P w K mg base CX0 2 "is_prime" ["n"] (sp_is_prime K)) (c_power_within : Cal P w K mg base CX0 1 "power_within" ["a", "k", "limit"] (sp_power_within K)) (c_is_irreducible_row : Cal P w K mg base (CX P w) 7 "is_irreducible_row" ["m", "p"] (sp_is_irreducible_row K (⟨some c_fault, some c_zd, some c_mal, some c_refu, none⟩ : Xc) TT)) : FnOk P w K mg base (CX P w) 8 f fd ["p", "modulus"] (sp_check_making K (⟨some c_fault, some c_zd, some c_mal, some c_refu, none⟩ : Xc) TT) := by
  obtain ⟨f_is_integer, fd_is_integer, G_is_integer, g_is_integer, k_is_integer, b_is_integer⟩ := c_is_integer
  obtain ⟨f_is_prime, fd_is_prime, G_is_prime, g_is_prime, k_is_prime, b_is_prime⟩ := c_is_prime
  obtain ⟨f_power_within, fd_power_within, G_power_within, g_power_within, k_power_within, b_power_within⟩ := c_power_within
  obtain ⟨f_is_irreducible_row, fd_is_irreducible_row, G_is_irreducible_row, g_is_irreducible_row, k_is_irreducible_row, b_is_irreducible_row⟩ := c_is_irreducible_row
  refine F.okX sc_check_making (fun vs H Q E h => ?_) (fun cdv A outer s H0 vs Q E hr h => ?_)
  · obtain ⟨a_p, a_modulus, v_modulus, rfl, h_modulus, hTT, hm⟩ := h
    rfl
  · obtain ⟨a_p, a_modulus, v_modulus, rfl, h_modulus, hTT, hm⟩ := h
    have hm : wp (m_check_making a_p a_modulus) _ _ := hm
    unfold m_check_making at hm
    refine ⟨_, (pss_cons (ps_if (PW.pt (pw_or (pt_not (pt_val (pe_call G_is_integer (hr.mono (by decide)) (by rfl) g_is_integer k_is_integer b_is_integer .nil pass0 (pa_cons (pv 0) pa_nil)))) (pw_or1 (pt_not (pt_val (pe_call G_is_prime (hr.mono (by decide)) (by rfl) g_is_prime k_is_prime b_is_prime .nil pass0 (pa_cons (pv 0) pa_nil))))))) (pss_one (ps_raise rfl (takes_of rfl rfl rfl rfl) (pmk_own PySem.F.excBase_ValueError Xk_mal.x Xk_mal.g Xk_mal.k (raises_own Xk_mal.b Xk_mal.t) (by rfl)))) pss_nil) (pss_cons (ps_if (pt_not (pt_val (pe_callB (isiTK (K := K) rfl) (by rfl) z_isinstance (by decide +kernel) (pa_cons (pv 1) (pa_cons (pe_tup (pa_cons (pe_bltn (by rfl) z_tuple (by decide +kernel) (show L2.RelV (.ty "tuple") (.type "tuple") from rfl)) (pa_cons (pe_bltn (by rfl) z_list (by decide +kernel) (show L2.RelV (.ty "list") (.type "list") from rfl)) pa_nil))) pa_nil))))) (pss_one (ps_raise rfl (takes_of rfl rfl rfl rfl) (pmk_own PySem.F.excBase_ValueError Xk_mal.x Xk_mal.g Xk_mal.k (raises_own Xk_mal.b Xk_mal.t) (by rfl)))) pss_nil) (pss_cons (ps_if (pt_not (pt_val (pe_callB (allK (K := K) rfl rfl) (by rfl) z_all (by decide +kernel) (pa_cons (pe_lc (own := [("item", 2)]) (g := gName 2) (tt := tYes) rfl sc_check_making.nd (pi_tupK (K := K) (pv 1) rfl) (blkOk_by (own := [("item", 2)]) (N := n_check_making) (sc := defScope s_check_making) (by decide +kernel)) (fun _ _ _ _ _ => pg_name (i := 2) sc_check_making.nd rfl (Or.inl rfl)) (fun _ _ _ _ _ => pts_nil) (fun _ _ _ _ _ => (pe_and (pe_call G_is_integer (hr.mono (by decide)) (by rfl) g_is_integer k_is_integer b_is_integer .nil pass0 (pa_cons (pv 2) pa_nil)) (pe_one (pe_chain op_le op_lt pe_int (pv 2) (pv 0)))))) pa_nil)))) (pss_one (ps_raise rfl (takes_of rfl rfl rfl rfl) (pmk_own PySem.F.excBase_ValueError Xk_mal.x Xk_mal.g Xk_mal.k (raises_own Xk_mal.b Xk_mal.t) (by rfl)))) pss_nil) (pss_cons (ps_if (PW.pt (pw_or (pt_cmpR op_lt (pe_callB (lenK (K := K) rfl) (by rfl) z_len PySem.boot_len (pa_cons (pv 1) pa_nil)) pe_int (nomark _)) (pw_or1 (pt_cmpR op_neI (pe_ix (ix_tupK (K := K) rfl) (pv 1) (pe_un un_neg pe_int) (fun _ _ => rfl)) pe_int (nomark _))))) (pss_one (ps_raise rfl (takes_of rfl rfl rfl rfl) (pmk_own PySem.F.excBase_ValueError Xk_mal.x Xk_mal.g Xk_mal.k (raises_own Xk_mal.b Xk_mal.t) (by rfl)))) pss_nil) (pss_cons (ps_if (pt_cmpR op_isN' (pe_call G_power_within (hr.mono (by decide)) (by rfl) g_power_within k_power_within b_power_within .nil pass0 (pa_cons (pv 0) (pa_cons (pe_op op_sub (pe_callB (lenK (K := K) rfl) (by rfl) z_len PySem.boot_len (pa_cons (pv 1) pa_nil)) pe_int) (pa_cons (pe_glob (v := .int 400) (by rfl) gk_MOST_MEMBERS ⟨_, rfl⟩) pa_nil)))) pe_non (nomark _)) (pss_one ps_never) pss_nil) (pss_one (ps_if (pt_not (pt_val (pe_callS G_is_irreducible_row (hr.mono (by decide)) (by rfl) g_is_irreducible_row k_is_irreducible_row b_is_irreducible_row (fun σ => passAt (takes_of rfl rfl rfl rfl) σ) (pa_cons (pe_callTy (tupleK (K := K) rfl) (by rfl) z_tuple (by decide +kernel) (pa_cons (pv 1) pa_nil)) (pa_cons (pv 0) pa_nil))))) (pss_one (ps_raise rfl (takes_of rfl rfl rfl rfl) (pmk_own PySem.F.excBase_ValueError Xk_mal.x Xk_mal.g Xk_mal.k (raises_own Xk_mal.b Xk_mal.t) (by rfl)))) pss_nil))))))), ?_⟩
    have g0 := Gr.refl (A := []) H0
    refine rd_seq (rd_if ((ev_or (fun Q hm => by
        have gb1 := Gr.refl (A := []) H0
        have h2 := (rfl : rA H0 (V.int a_p) (V.int a_p))
        refine rd_not (rd_B (rd_call (rd_cons (rd_var rfl (rd_nil ⟨_, rfl, wp_imp (wp_bindN hm) (fun t3 hm H4 g5 => ?_) (fun _ e => e)⟩)))))
        have h_modulus := Imm.mono g5 h_modulus
        have g0 := g0.of0' g5
        have gb1 := gb1.of0' g5
        exact rd_kB (hm _ gb1)) (fun H6 g7 Q hm => by
        have h_modulus := Imm.mono g7 h_modulus
        have g0 := g0.of0' g7
        have gb8 := Gr.refl (A := []) H6
        refine rd_not (rd_B (rd_call (rd_cons (rd_var rfl (rd_nil ⟨_, rfl, wp_imp (wp_bindN hm) (fun t9 hm H10 g11 => ?_) (fun _ e => e)⟩)))))
        have h_modulus := Imm.mono g11 h_modulus
        have g0 := g0.of0' g11
        have gb8 := gb8.of0' g11
        exact rd_kB (hm _ gb8))) _ (wp_imp (wp_bind hm) (fun t12 hm H13 g14 => ?_) (fun _ e => e))))
    have h_modulus := Imm.mono g14 h_modulus
    have g0 := g0.of0' g14
    refine iteB (fun e15 => ?_) (fun e15 => ?_)
    · have hm := ifT e15 (wp_iteB hm)
      exact xe0_at hm rfl g0
    have hm := ifF e15 (wp_iteB hm)
    refine rd_next (rd_nx ?_)
    refine rd_seq (rd_if (rd_not (rd_B (rd_cb (rd_cons (rd_var rfl (rd_cons (rd_tup (rd_cons (rd_c (rd_cons (rd_c (rd_nil (mk_X (by show 2 ≤ sizeLine; decide) fun p16 H17 g18 h19 => ?_))))))))))))))
    have h_modulus := Imm.mono g18 h_modulus
    have g0 := g0.of0' g18
    refine rd_nil (isi_2 (S := "tuple") (b1 := true) (b2 := false) h19 (ty_T h_modulus) (by decide +kernel) (by decide +kernel) (rd_kB ?_))
    refine iteB (fun e20 => ?_) (fun e20 => ?_)
    · have hm := ifT e20 (wp_iteB hm)
      exact xe0_at hm rfl g0
    have hm := ifF e20 (wp_iteB hm)
    refine rd_next (rd_nx ?_)
    obtain ⟨a24, ea25, vs21, hl22, hp23⟩ := id h_modulus
    refine rd_seq (rd_if (rd_not (rd_B (rd_cb (rd_cons (rd_lc (rd_it (rd_var rfl ⟨_, ea25, ⟨_, hl22⟩, fun p26 n27 => ?_⟩))))))))
    have nw28 := Gr.free g0 n27
    refine lc_tup (r := rI) (H1 := H17) (fun (s : List Bool) (H : Hp) => Gr [] H17 H ∧ Ls rB H p26 s) hp23 (wp_bind hm) ⟨Gr.new n27, ⟨[], upd_same, .nil⟩⟩ (fun _ _ hr => by obtain ⟨g, _⟩ := hr; exact g.tup hl22) (fun x33 v34 s32 H36 N37 hx35 hr38 hm => ?_) (fun s39 H40 hr41 hm => ?_)
    · unfold m_check_making_b1 at hm
      obtain ⟨g42, h43⟩ := hr38
      have h_modulus := Imm.mono g42 h_modulus
      have g0 := Gr.of0' g0 g42
      have gl44 := g42
      obtain rfl := hx35
      refine rd_gn ⟨rfl, rd_yes (iteT ((ev_andV (fun Q hm => by
          have gb45 := Gr.refl (A := []) H36
          have h46 := (rfl : rA H36 (V.int x33) (V.int x33))
          refine rd_call (rd_cons (rd_var rfl (rd_nil ⟨_, rfl, wp_imp (wp_bindN hm) (fun t47 hm H48 g49 => ?_) (fun _ e => e)⟩)))
          have h_modulus := Imm.mono g49 h_modulus
          have h43 := Ls.g0 g49 h43
          have g0 := g0.of0' g49
          have gl44 := gl44.of0' g49
          have gb45 := gb45.of0' g49
          exact hm _ _ gb45 rfl) (fun H50 g51 Q hm => by
          have h_modulus := Imm.mono g51 h_modulus
          have h43 := Ls.g0 g51 h43
          have g0 := g0.of0' g51
          have gl44 := gl44.of0' g51
          have gb52 := Gr.refl (A := []) H50
          exact chain_I (fun _ q => rd_c (q)) (fun _ q => rd_var rfl (q)) (fun _ q => rd_var rfl (q)) (hm _ _ gb52 rfl))) _ (wp_imp (wp_bind hm) (fun t53 hm v56 H54 g55 h57 => ?_) (fun _ e => e))))⟩
      obtain rfl := h57
      have h_modulus := Imm.mono g55 h_modulus
      have h43 := Ls.g0 g55 h43
      have g0 := g0.of0' g55
      have gl44 := gl44.of0' g55
      obtain ⟨c58, hm⟩ := wp_grd hm
      refine lc_add h43 rfl c58 fun H59 g60 h61 => ?_
      have h_modulus := Imm.mono g60 h_modulus
      have g0 := Gr.loc g0 nw28 g60
      have gl44 := Gr.loc gl44 n27 g60
      exact hm _ ⟨gl44, h61⟩
    obtain ⟨g62, h63⟩ := hr41
    have h_modulus := Imm.mono g62 h_modulus
    have g0 := Gr.of0' g0 g62
    refine rd_nil (all_L (Ls.q h63) (rd_kB ?_))
    refine iteB (fun e64 => ?_) (fun e64 => ?_)
    · have hm := ifT e64 (wp_iteB hm)
      exact xe0_at hm rfl g0
    have hm := ifF e64 (wp_iteB hm)
    refine rd_next (rd_nx ?_)
    refine rd_seq (rd_if ((ev_or (fun Q hm => by
        have gb65 := Gr.refl (A := []) H40
        exact rd_T (rd_op (rd_cb (rd_cons (rd_var rfl (rd_nil (len_T h_modulus (rd_c (rd_rI0 (rd_kB (hm _ gb65))))))))))) (fun H66 g67 Q hm => by
        have h_modulus := Imm.mono g67 h_modulus
        have g0 := g0.of0' g67
        have gb68 := Gr.refl (A := []) H66
        refine rd_T (rd_op (rd_op (rd_var rfl (rd_un (rd_c (rd_rU (ix_T h_modulus (wp_bind hm) fun t69 v70 h71 hm => ?_)))))))
        obtain rfl := h71
        exact rd_c (rd_rI0 (rd_kB (hm _ gb68))))) _ (wp_imp (wp_bind hm) (fun t72 hm H73 g74 => ?_) (fun _ e => e))))
    have h_modulus := Imm.mono g74 h_modulus
    have g0 := g0.of0' g74
    refine iteB (fun e75 => ?_) (fun e75 => ?_)
    · have hm := ifT e75 (wp_iteB hm)
      exact xe0_at hm rfl g0
    have hm := ifF e75 (wp_iteB hm)
    refine rd_next (rd_nx ?_)
    refine rd_seq (rd_if (rd_T (rd_op (rd_call (rd_cons (rd_var rfl (rd_cons (rd_op (rd_cb (rd_cons (rd_var rfl (rd_nil (len_T h_modulus (rd_c (rd_rI0 (rd_cons (rd_c (rd_nil ⟨_, _, _, rfl, wp_imp (wp_bindN hm) (fun t76 hm v79 H77 g78 h80 => ?_) (fun _ e => e)⟩))))))))))))))))))
    have h_modulus := Imm.mono g78 h_modulus
    have g0 := g0.of0' g78
    refine rd_c (isN_opt h80 (rd_kB ?_))
    refine iteB (fun e81 => ?_) (fun e81 => ?_)
    · have hm := ifT e81 (wp_iteB hm)
      exact (show False from hm).elim
    have hm := ifF e81 (wp_iteB hm)
    refine rd_next (rd_nx ?_)
    refine rd_if (rd_not (rd_B (rd_callS (rd_cons (rd_cb (rd_cons (rd_var rfl (rd_nil (tup_of_T h_modulus (rd_cons (rd_var rfl (rd_nil ⟨_, _, _, rfl, h_modulus, (hTT.gr g0), wp_imp (wp_bind hm) (fun t82 hm H83 g84 => ?_) (fun _ e => XEr.sub g0 e)⟩))))))))))))
    have h_modulus := Imm.mono g84 h_modulus
    have g0 := g0.of0' g84
    refine rd_kB ?_
    refine iteB (fun e85 => ?_) (fun e85 => ?_)
    · have hm := ifT e85 (wp_iteB hm)
      exact xe0_at hm rfl g0
    have hm := ifF e85 (wp_iteB hm)
    exact rd_next (hm _ g0)

abbrev s_digits : Stmt := topS 16
abbrev n_digits : List Str := ["number", "base", "count", "found", "rest", "_"]
theorem sc_digits : FnScope n_digits ["number", "base", "count"] (defScope s_digits) := ⟨rfl, rfl, rfl, by decide +kernel, rfl, by decide +kernel, by decide +kernel⟩
def m_digits_b1 (a_base : Int) (s15 : (List Int) × Int) (x21 : Int) : R ((List Int) × Int) :=
  grd (0 < a_base) <| grd (lenLt s15.1) <| grd (CDiv s15.2 a_base) <| R.ok ((s15.1 ++ [(s15.2 % a_base)]), (s15.2 / a_base))
def m_digits (a_number : Int) (a_base : Int) (a_count : Int) : R (List Int) :=
  (grd (rgOk a_count) <| foldR (m_digits_b1 a_base) (([] : List Int), a_number) (rng 0 (a_count).toNat)).bind fun s10 => R.ok s10.1
def sp_digits (K : PySem.W.Frag) : Sp := fun vs H Q _ => ∃ (a_number : Int) (a_base : Int) (a_count : Int), vs = [(.int a_number), (.int a_base), (.int a_count)] ∧ wp (m_digits a_number a_base a_count) (fun r => ∀ v H', Gr [] H H' → (rT K rI) H' r v → Q v H') (fun _ => False)
theorem ok_digits {P : Program} {w : World} {K : PySem.W.Frag} {mg : Str → Option Value} {base : Heap} {f : Addr} {fd : FuncData} (F : Fun K "digits" "digits" s_digits f fd) (z_range : mg "range" = none) (z_tuple : mg "tuple" = none) : FnOk P w K mg base CX0 1 f fd ["number", "base", "count"] (sp_digits K) := by
  refine F.ok sc_digits (fun vs H Q E h => ?_) (fun cdv A outer s H0 vs Q E hr h => ?_)
  · obtain ⟨a_number, a_base, a_count, rfl, hm⟩ := h
    rfl
  · obtain ⟨a_number, a_base, a_count, rfl, hm⟩ := h
    have hm : wp (m_digits a_number a_base a_count) _ _ := hm
    unfold m_digits at hm
    refine ⟨_, (pss_cons (ps_set (i := 3) sc_digits.nd rfl (Or.inl rfl) (pe_lst pa_nil)) (pss_cons (ps_set (i := 4) sc_digits.nd rfl (Or.inl rfl) (pv 0)) (pss_cons (ps_for PassesOwn.never rfl (pi_range1 (by rfl) z_range (pa_cons (pv 2) pa_nil)) (pg_name (i := 5) sc_digits.nd rfl (Or.inl rfl)) (pss_cons (ps_expr (pe_bm PySem.F.plainAttrs_list PySem.F.slot_list_append PySem.F.type_list_append mt_append (pv 3) (pa_cons (pe_op op_mod (pv 4) (pv 1)) pa_nil))) (pss_one (ps_set (i := 4) sc_digits.nd rfl (Or.inl rfl) (pe_op op_fdiv (pv 4) (pv 1)))))) (pss_one (ps_ret (pe_callTy (tupleK (K := K) rfl) (by rfl) z_tuple (by decide +kernel) (pa_cons (pv 3) pa_nil))))))), ?_⟩
    have g0 := Gr.refl (A := []) H0
    refine rd_seq (rd_asg (rd_lst (rd_nil (mk_L (r := rI) (xs := ([] : List Int)) .nil (by show 0 ≤ sizeLine; decide) fun p1 H2 n3 g4 h5 => ?_))))
    have nw6 := Gr.free g0 n3
    have g0 := g0.of0' g4
    refine rd_gn ?_
    refine rd_nx ?_
    refine rd_seq (rd_asg (rd_var rfl (rd_gn ?_)))
    refine rd_nx ?_
    refine seq_join (t := tFor _ _ _) (wp_bind hm) (fun (s : (List Int) × Int) (σ : L2.St) (H : Hp) => ∃ (o14 : Option V), σ = [some (.int a_number), some (.int a_base), some (.int a_count), some (.ref p1), some (.int s.2), o14] ∧ Gr [p1] H2 H ∧ Ls rI H p1 s.1) (fun N8 hN9 hm => ?_) (fun s10 σ H11 hr12 hm => ?_)
    · have gl13 := Gr.refl (A := [p1]) H2
      obtain ⟨c19, hm⟩ := wp_grd hm
      have gl20 := Gr.refl (A := [p1]) H2
      refine rd_for (rd_r1 (rd_cons (rd_var rfl (rd_nil ⟨_, rfl, c19.1, c19.2, for_rngR (lo := 0) (n := (a_count).toNat) (fun (s : (List Int) × Int) (σ : L2.St) (H : Hp) => ∃ (o14 : Option V), σ = [some (.int a_number), some (.int a_base), some (.int a_count), some (.ref p1), some (.int s.2), o14] ∧ Gr [p1] H2 H ∧ Ls rI H p1 s.1) (by exact wp_N hm (fun s σ' H' hr hz => hN9 s σ' H' hr hz)) ⟨_, rfl, gl20, h5⟩ (fun x21 s15 σ H16 N18 hr17 hm => ?_)⟩))))
      unfold m_digits_b1 at hm
      obtain ⟨o27, rfl, g25, h26⟩ := hr17
      have g0 := Gr.many g0 (all1 ((.inr nw6)) all0) g25
      have gl20 := Gr.many gl20 (all1 ((.inl (by simp))) all0) g25
      obtain ⟨c28, hm⟩ := wp_grd hm
      obtain ⟨c29, hm⟩ := wp_grd hm
      refine rd_gn (rd_seq (rd_drop (rd_bm (rd_var rfl ⟨(Ls.ty h26), rd_cons (rd_op (rd_var rfl (rd_var rfl (rd_rI c28 (rd_nil (rd_append h26 rfl c29 fun H30 g31 h32 => ?_))))))⟩))))
      have g0 := Gr.loc g0 nw6 g31
      have gl20 := Gr.at1 gl20 (by simp) g31
      refine rd_nx ?_
      obtain ⟨c33, hm⟩ := wp_grd hm
      refine rd_asg (rd_op (rd_var rfl (rd_var rfl (rd_rI c33 (rd_gn ?_)))))
      exact hm _ _ ⟨_, rfl, gl20, h32⟩
    obtain ⟨o36, rfl, g34, h35⟩ := hr12
    have g0 := Gr.many g0 (all1 ((.inr nw6)) all0) g34
    refine rd_ret (rd_cb (rd_cons (rd_var rfl (rd_nil (tup_of_L (K := K) (Ls.q h35) fun v37 H38 g39 h40 => ?_)))))
    have h35 := Ls.g0 g39 h35
    have g0 := g0.of0' g39
    exact hm _ _ g0 h40

abbrev s_trimmed_2 : Stmt := topS 21
abbrev n_trimmed_2 : List Str := ["row", "p", "item"]
theorem sc_trimmed_2 : FnScope n_trimmed_2 ["row", "p"] (defScope s_trimmed_2) := ⟨rfl, rfl, rfl, by decide +kernel, rfl, by decide +kernel, by decide +kernel⟩
def m_trimmed_2_b1 (a_p : Int) (s12 : List Int) (x13 : Int) : R (List Int) :=
  grd (0 < a_p) <| grd (lenLt s12) <| R.ok (s12 ++ [(x13 % a_p)])
def m_trimmed_2 (a_row : (List Int)) (a_p : Int) : R (List Int) :=
  (foldR (m_trimmed_2_b1 a_p) ([]) a_row).bind fun s19 => (m_without_end s19 (0 : Int)).bind fun t32 => R.ok t32
def sp_trimmed_2 (K : PySem.W.Frag) : Sp := fun vs H Q _ => ∃ (a_row : (List Int)) (v_row : V) (a_p : Int), vs = [v_row, (.int a_p)] ∧ (rT K rI) H a_row v_row ∧ wp (m_trimmed_2 a_row a_p) (fun r => ∀ v H', Gr [] H H' → (rT K rI) H' r v → Q v H') (fun _ => False)
theorem ok_trimmed_2 {P : Program} {w : World} {K : PySem.W.Frag} {mg : Str → Option Value} {base : Heap} {f : Addr} {fd : FuncData} (F : Fun K "trimmed" "trimmed" s_trimmed_2 f fd) (c_without_end : Cal P w K mg base CX0 1 "without_end" ["items", "zero"] (sp_without_end K)) : FnOk P w K mg base CX0 2 f fd ["row", "p"] (sp_trimmed_2 K) := by
  obtain ⟨f_without_end, fd_without_end, G_without_end, g_without_end, k_without_end, b_without_end⟩ := c_without_end
  refine F.ok sc_trimmed_2 (fun vs H Q E h => ?_) (fun cdv A outer s H0 vs Q E hr h => ?_)
  · obtain ⟨a_row, v_row, a_p, rfl, h_row, hm⟩ := h
    rfl
  · obtain ⟨a_row, v_row, a_p, rfl, h_row, hm⟩ := h
    have hm : wp (m_trimmed_2 a_row a_p) _ _ := hm
    unfold m_trimmed_2 at hm
    refine ⟨_, (pss_one (ps_ret (pe_call G_without_end (hr.mono (by decide)) (by rfl) g_without_end k_without_end b_without_end .nil pass0 (pa_cons (pe_lc (own := [("item", 2)]) (g := gName 2) (tt := tYes) rfl sc_trimmed_2.nd (pi_tupK (K := K) (pv 0) rfl) (blkOk_by (own := [("item", 2)]) (N := n_trimmed_2) (sc := defScope s_trimmed_2) (by decide +kernel)) (fun _ _ _ _ _ => pg_name (i := 2) sc_trimmed_2.nd rfl (Or.inl rfl)) (fun _ _ _ _ _ => pts_nil) (fun _ _ _ _ _ => (pe_op op_mod (pv 2) (pv 1)))) (pa_cons pe_int pa_nil))))), ?_⟩
    have g0 := Gr.refl (A := []) H0
    obtain ⟨a4, ea5, vs1, hl2, hp3⟩ := id h_row
    refine rd_ret (rd_call (rd_cons (rd_lc (rd_it (rd_var rfl ⟨_, ea5, ⟨_, hl2⟩, fun p6 n7 => ?_⟩)))))
    have nw8 := Gr.free g0 n7
    refine lc_tup (r := rI) (H1 := H0) (fun (s : List Int) (H : Hp) => Gr [] H0 H ∧ Ls rI H p6 s) hp3 (wp_bind hm) ⟨Gr.new n7, ⟨[], upd_same, .nil⟩⟩ (fun _ _ hr => by obtain ⟨g, _⟩ := hr; exact g.tup hl2) (fun x13 v14 s12 H16 N17 hx15 hr18 hm => ?_) (fun s19 H20 hr21 hm => ?_)
    · unfold m_trimmed_2_b1 at hm
      obtain ⟨g22, h23⟩ := hr18
      have h_row := Imm.mono g22 h_row
      have g0 := Gr.of0' g0 g22
      have gl24 := g22
      obtain rfl := hx15
      obtain ⟨c25, hm⟩ := wp_grd hm
      obtain ⟨c26, hm⟩ := wp_grd hm
      refine rd_gn ⟨rfl, rd_yes (iteT (rd_op (rd_var rfl (rd_var rfl (rd_rI c25 (lc_add h23 rfl c26 fun H27 g28 h29 => ?_))))))⟩
      have h_row := Imm.mono g28 h_row
      have g0 := Gr.loc g0 nw8 g28
      have gl24 := Gr.loc gl24 n7 g28
      exact hm _ ⟨gl24, h29⟩
    obtain ⟨g30, h31⟩ := hr21
    have h_row := Imm.mono g30 h_row
    have g0 := Gr.of0' g0 g30
    refine rd_cons (rd_c (rd_nil ⟨_, _, _, rfl, h31, wp_imp (wp_bind hm) (fun t32 hm v35 H33 g34 h36 => ?_) (fun _ e => e)⟩))
    have h_row := Imm.mono g34 h_row
    have g0 := g0.of0' g34
    exact hm _ _ g0 h36

abbrev s_powers_of : Stmt := topS 35
abbrev n_powers_of : List Str := ["a", "p", "modulus", "n", "shifted", "one", "powers", "power", "k", "x", "row"]
theorem sc_powers_of : FnScope n_powers_of ["a", "p", "modulus"] (defScope s_powers_of) := ⟨rfl, rfl, rfl, by decide +kernel, rfl, by decide +kernel, by decide +kernel⟩
def m_powers_of_b1 (a_a : (List Int)) (a_p : Int) (a_modulus : (List Int)) (s8 : List (List Int)) (x9 : Int) : R (List (List Int)) :=
  grd (([(0 : Int)]).isEmpty = false) <| grd (repOk ([(0 : Int)]) x9) <| grd (lenOk ((repL ([(0 : Int)]) x9) ++ a_a)) <| (noEr (m_trimmed_2 ((repL ([(0 : Int)]) x9) ++ a_a) a_p)).bind fun t36 => (noEr (m_divide_rows t36 a_modulus a_p)).bind fun t41 => (noEr (m_filled_up t41.2 (((a_modulus).length : Int) - (1 : Int)) (0 : Int))).bind fun t49 => grd (lenLt s8) <| R.ok (s8 ++ [t49])
def m_powers_of_b2 (t64 : (List Int)) (s84 : (List (List Int)) × (List Int)) : R Bool :=
  R.ok (!decide (s84.2 = t64))
def m_powers_of_b3 (x113 : Int) (s145 : List Int) (x146 : (Int × (List Int))) : R (List Int) :=
  (getL x146.2 x113).bind fun t167 => grd (CMul x146.1 t167) <| grd (lenLt s145) <| R.ok (s145 ++ [(x146.1 * t167)])
def m_powers_of_b4 (a_p : Int) (s15 : List (List Int)) (s84 : (List (List Int)) × (List Int)) (s112 : List Int) (x113 : Int) : R (List Int) :=
  (foldR (m_powers_of_b3 x113) ([]) (s84.2.zip s15)).bind fun s152 => grd (0 < a_p) <| grd (lenLt s112) <| R.ok (s112 ++ [(((s152).sum) % a_p)])
def m_powers_of_b5 (a_p : Int) (a_modulus : (List Int)) (s15 : List (List Int)) (s84 : (List (List Int)) × (List Int)) : R ((List (List Int)) × (List Int)) :=
  grd (lenLt s84.1) <| grd (rgOk (((a_modulus).length : Int) - (1 : Int))) <| (foldR (m_powers_of_b4 a_p s15 s84) ([]) (rng 0 ((((a_modulus).length : Int) - (1 : Int))).toNat)).bind fun s119 => R.ok ((s84.1 ++ [s84.2]), s119)
def m_powers_of (a_a : (List Int)) (a_p : Int) (a_modulus : (List Int)) : R (List (List Int)) :=
  grd (rgOk (((a_modulus).length : Int) - (1 : Int))) <| (foldR (m_powers_of_b1 a_a a_p a_modulus) ([]) (rng 0 ((((a_modulus).length : Int) - (1 : Int))).toNat)).bind fun s15 => (noEr (m_filled_up ([(1 : Int)]) (((a_modulus).length : Int) - (1 : Int)) (0 : Int))).bind fun t64 => (whileR (m_powers_of_b2 t64) (m_powers_of_b5 a_p a_modulus s15) 100000 ([t64], a_a)).bind fun s79 => R.ok s79.1
def sp_powers_of (K : PySem.W.Frag) (C : Xc) : Sp := fun vs H Q E => ∃ (a_a : (List Int)) (v_a : V) (a_p : Int) (a_modulus : (List Int)) (v_modulus : V), vs = [v_a, (.int a_p), v_modulus] ∧ (rT K rI) H a_a v_a ∧ (rT K rI) H a_modulus v_modulus ∧ wp (m_powers_of a_a a_p a_modulus) (fun r => ∀ v H', Gr [] H H' → (rT K (rT K rI)) H' r v → Q v H') (XEr C [] H E)
theorem ok_powers_of {P : Program} {w : World} {K : PySem.W.Frag} {mg : Str → Option Value} {base : Heap} {f : Addr} {fd : FuncData} {c_fault c_zd c_mal c_refu : Addr} (F : Fun K "powers_of" "powers_of" s_powers_of f fd) (z_len : mg "len" = none) (z_range : mg "range" = none) (z_zip : mg "zip" = none) (z_sum : mg "sum" = none) (z_tuple : mg "tuple" = none) (c_trimmed_2 : Cal P w K mg base CX0 2 "trimmed" ["row", "p"] (sp_trimmed_2 K)) (c_divide_rows : Cal P w K mg base (CX P w) 3 "divide_rows" ["a", "b", "p"] (sp_divide_rows K (⟨some c_fault, some c_zd, some c_mal, some c_refu, none⟩ : Xc))) (c_filled_up : Cal P w K mg base CX0 1 "filled_up" ["items", "length", "zero"] (sp_filled_up K)) : FnOk P w K mg base (CX P w) 4 f fd ["a", "p", "modulus"] (sp_powers_of K (⟨some c_fault, some c_zd, some c_mal, some c_refu, none⟩ : Xc)) := by
  obtain ⟨f_trimmed_2, fd_trimmed_2, G_trimmed_2, g_trimmed_2, k_trimmed_2, b_trimmed_2⟩ := c_trimmed_2
  obtain ⟨f_divide_rows, fd_divide_rows, G_divide_rows, g_divide_rows, k_divide_rows, b_divide_rows⟩ := c_divide_rows
  obtain ⟨f_filled_up, fd_filled_up, G_filled_up, g_filled_up, k_filled_up, b_filled_up⟩ := c_filled_up
  refine F.okX sc_powers_of (fun vs H Q E h => ?_) (fun cdv A outer s H0 vs Q E hr h => ?_)
  · obtain ⟨a_a, v_a, a_p, a_modulus, v_modulus, rfl, h_a, h_modulus, hm⟩ := h
    rfl
  · obtain ⟨a_a, v_a, a_p, a_modulus, v_modulus, rfl, h_a, h_modulus, hm⟩ := h
    have hm : wp (m_powers_of a_a a_p a_modulus) _ _ := hm
    unfold m_powers_of at hm
    refine ⟨_, (pss_cons (ps_set (i := 3) sc_powers_of.nd rfl (Or.inr rfl) (pe_op op_sub (pe_callB (lenK (K := K) rfl) (by rfl) z_len PySem.boot_len (pa_cons (pv 2) pa_nil)) pe_int)) (pss_cons (ps_set (i := 4) sc_powers_of.nd rfl (Or.inr rfl) (pe_lc (own := [("k", 8)]) (g := gName 8) (tt := tYes) rfl sc_powers_of.nd (pi_range1 (by rfl) z_range (pa_cons (pv 3) pa_nil)) (blkOk_by (own := [("k", 8)]) (N := n_powers_of) (sc := defScope s_powers_of) (by decide +kernel)) (fun _ _ _ _ _ => pg_name (i := 8) sc_powers_of.nd rfl (Or.inl rfl)) (fun _ _ _ _ _ => pts_nil) (fun _ _ _ _ _ => (pe_call G_filled_up (hr.mono (by decide)) (by rfl) g_filled_up k_filled_up b_filled_up .nil pass0 (pa_cons (pe_ix (ix_tupK (K := K) rfl) (pe_call G_divide_rows (hr.mono (by decide)) (by rfl) g_divide_rows k_divide_rows b_divide_rows .nil passL (pa_cons (pe_call G_trimmed_2 (hr.mono (by decide)) (by rfl) g_trimmed_2 k_trimmed_2 b_trimmed_2 .nil pass0 (pa_cons (pe_op (catAK (K := K) rfl) (pe_op (op_repA (K := K) rfl) (pe_tup (pa_cons pe_int pa_nil)) (pv 8)) (pv 0)) (pa_cons (pv 1) pa_nil))) (pa_cons (pv 2) (pa_cons (pv 1) pa_nil)))) pe_int (fun _ _ => rfl)) (pa_cons (pv 3) (pa_cons pe_int pa_nil))))))) (pss_cons (ps_set (i := 5) sc_powers_of.nd rfl (Or.inl rfl) (pe_call G_filled_up (hr.mono (by decide)) (by rfl) g_filled_up k_filled_up b_filled_up .nil pass0 (pa_cons (pe_tup (pa_cons pe_int pa_nil)) (pa_cons (pv 3) (pa_cons pe_int pa_nil))))) (pss_cons (ps_set (i := 6) sc_powers_of.nd rfl (Or.inl rfl) (pe_lst (pa_cons (pv 5) pa_nil))) (pss_cons (ps_set (i := 7) sc_powers_of.nd rfl (Or.inr rfl) (pv 0)) (pss_cons (ps_while PassesOwn.leaving (pt_cmpR (neDK (K := K) hr.units rfl) (pv 7) (pv 5) (nomark _)) (pss_cons (ps_expr (pe_bm PySem.F.plainAttrs_list PySem.F.slot_list_append PySem.F.type_list_append mt_append (pv 6) (pa_cons (pv 7) pa_nil))) (pss_one (ps_set (i := 7) sc_powers_of.nd rfl (Or.inr rfl) (pe_callTy (tupleK (K := K) rfl) (by rfl) z_tuple (by decide +kernel) (pa_cons (pe_lc (own := [("k", 8)]) (g := gName 8) (tt := tYes) rfl sc_powers_of.nd (pi_range1 (by rfl) z_range (pa_cons (pv 3) pa_nil)) (blkOk_by (own := [("k", 8)]) (N := n_powers_of) (sc := defScope s_powers_of) (by decide +kernel)) (fun _ _ _ _ _ => pg_name (i := 8) sc_powers_of.nd rfl (Or.inr rfl)) (fun _ _ _ _ _ => pts_nil) (fun _ _ _ _ _ => (pe_op op_mod (pe_callB (sumK (K := K) rfl rfl) (by rfl) z_sum (by decide +kernel) (pa_cons (pe_lc (own := [("x", 9), ("row", 10)]) (g := (gTup K 2 (gCons (gName 9) (gCons (gName 10) gNil)))) (tt := tYes) rfl sc_powers_of.nd (pi_zipTL (K := K) (by rfl) z_zip (pa_cons (pv 7) (pa_cons (pv 4) pa_nil)) rfl) (blkOk_by (by kernel_rfl)) (fun _ _ _ _ _ => pg_tup rfl (pgs_cons (pg_name (i := 9) sc_powers_of.nd rfl (Or.inl rfl) (Or.inr rfl)) (pgs_cons (pg_name (i := 10) sc_powers_of.nd rfl (Or.inl rfl) (Or.inr rfl)) pgs_nil))) (fun _ _ _ _ _ => pts_nil) (fun _ _ _ _ _ => (pe_op op_mul (pv 9) (pe_ix (ix_tupK (K := K) rfl) (pv 10) (pv 8) (fun _ _ => rfl))))) pa_nil)) (pv 1)))) pa_nil)))))) (pss_one (ps_ret (pe_callTy (tupleK (K := K) rfl) (by rfl) z_tuple (by decide +kernel) (pa_cons (pv 6) pa_nil)))))))))), ?_⟩
    have g0 := Gr.refl (A := []) H0
    refine rd_seq (rd_asg (rd_op (rd_cb (rd_cons (rd_var rfl (rd_nil (len_T h_modulus (rd_c (rd_rI0 (rd_gn ?_))))))))))
    refine rd_nx ?_
    obtain ⟨c1, hm⟩ := wp_grd hm
    refine rd_seq (rd_asg (rd_lc (rd_r1 (rd_cons (rd_var rfl (rd_nil ⟨_, rfl, c1.1, c1.2, fun p2 n3 => ?_⟩))))))
    have nw4 := Gr.free g0 n3
    refine lc_rng (lo := 0) (n := ((((a_modulus).length : Int) - (1 : Int))).toNat) (fun (s : List (List Int)) (H : Hp) => Gr [] H0 H ∧ Ls (rT K rI) H p2 s) (wp_bind hm) ⟨Gr.new n3, ⟨[], upd_same, .nil⟩⟩ (fun x9 s8 H12 N13 hr14 hm => ?_) (fun s15 H16 hr17 hm => ?_)
    · unfold m_powers_of_b1 at hm
      obtain ⟨g18, h19⟩ := hr14
      have h_a := Imm.mono g18 h_a
      have h_modulus := Imm.mono g18 h_modulus
      have g0 := Gr.of0' g0 g18
      have gl20 := g18
      refine rd_gn ⟨rfl, rd_yes (iteT (rd_call (rd_cons (rd_op (rd_call (rd_cons (rd_call (rd_cons (rd_op (rd_op (rd_tup (rd_cons (rd_c (rd_nil (mk_T (K := K) (r := rI) (xs := [(0 : Int)]) (.cons rfl .nil) (by show 1 ≤ sizeLine; decide) fun v21 H22 g23 h24 => ?_)))))))))))))))⟩
      have h_a := Imm.mono g23 h_a
      have h_modulus := Imm.mono g23 h_modulus
      have h19 := Ls.g0 g23 h19
      have g0 := g0.of0' g23
      have gl20 := gl20.of0' g23
      obtain ⟨c25, hm⟩ := wp_grd hm
      obtain ⟨c26, hm⟩ := wp_grd hm
      refine rd_var rfl (rep_T h24 c25 c26 fun v27 H28 g29 h30 => ?_)
      have h_a := Imm.mono g29 h_a
      have h_modulus := Imm.mono g29 h_modulus
      have h19 := Ls.g0 g29 h19
      have g0 := g0.of0' g29
      have gl20 := gl20.of0' g29
      obtain ⟨c31, hm⟩ := wp_grd hm
      refine rd_var rfl (cat_TA h30 h_a c31 fun v32 H33 g34 h35 => ?_)
      have h_a := Imm.mono g34 h_a
      have h_modulus := Imm.mono g34 h_modulus
      have h19 := Ls.g0 g34 h19
      have g0 := g0.of0' g34
      have gl20 := gl20.of0' g34
      refine rd_cons (rd_var rfl (rd_nil ⟨_, _, _, rfl, h35, wp_imp (wp_bindN hm) (fun t36 hm v39 H37 g38 h40 => ?_) (fun _ e => e)⟩))
      have h_a := Imm.mono g38 h_a
      have h_modulus := Imm.mono g38 h_modulus
      have h19 := Ls.g0 g38 h19
      have g0 := g0.of0' g38
      have gl20 := gl20.of0' g38
      refine rd_cons (rd_var rfl (rd_cons (rd_var rfl (rd_nil ⟨_, _, _, _, _, rfl, h40, h_modulus, wp_imp (wp_bindN hm) (fun t41 hm v44 H42 g43 h45 => ?_) (fun _ e => False.elim e)⟩))))
      have h_a := Imm.mono g43 h_a
      have h_modulus := Imm.mono g43 h_modulus
      have h19 := Ls.g0 g43 h19
      have g0 := g0.of0' g43
      have gl20 := gl20.of0' g43
      refine rd_c (ix_P21 h45 (by rfl) fun v47 h48 => ?_)
      refine rd_cons (rd_var rfl (rd_cons (rd_c (rd_nil ⟨_, _, _, _, rfl, h48, wp_imp (wp_bindN hm) (fun t49 hm v52 H50 g51 h53 => ?_) (fun _ e => e)⟩))))
      have h_a := Imm.mono g51 h_a
      have h_modulus := Imm.mono g51 h_modulus
      have h19 := Ls.g0 g51 h19
      have g0 := g0.of0' g51
      have gl20 := gl20.of0' g51
      obtain ⟨c54, hm⟩ := wp_grd hm
      refine lc_add h19 h53 c54 fun H55 g56 h57 => ?_
      have h_a := Imm.mono g56 h_a
      have h_modulus := Imm.mono g56 h_modulus
      have g0 := Gr.loc g0 nw4 g56
      have gl20 := Gr.loc gl20 n3 g56
      exact hm _ ⟨gl20, h57⟩
    obtain ⟨g58, h59⟩ := hr17
    have h_a := Imm.mono g58 h_a
    have h_modulus := Imm.mono g58 h_modulus
    have g0 := Gr.of0' g0 g58
    refine rd_gn ?_
    refine rd_nx ?_
    refine rd_seq (rd_asg (rd_call (rd_cons (rd_tup (rd_cons (rd_c (rd_nil (mk_T (K := K) (r := rI) (xs := [(1 : Int)]) (.cons rfl .nil) (by show 1 ≤ sizeLine; decide) fun v60 H61 g62 h63 => ?_))))))))
    have h_a := Imm.mono g62 h_a
    have h59 := Ls.g0 g62 h59
    have g0 := g0.of0' g62
    refine rd_cons (rd_var rfl (rd_cons (rd_c (rd_nil ⟨_, _, _, _, rfl, h63, wp_imp (wp_bindN hm) (fun t64 hm v67 H65 g66 h68 => ?_) (fun _ e => e)⟩))))
    have h_a := Imm.mono g66 h_a
    have h59 := Ls.g0 g66 h59
    have g0 := g0.of0' g66
    refine rd_gn ?_
    refine rd_nx ?_
    refine rd_seq (rd_asg (rd_lst (rd_cons (rd_var rfl (rd_nil (mk_L (r := (rT K rI)) (xs := [t64]) (.cons h68 .nil) (by show 1 ≤ sizeLine; decide) fun p69 H70 n71 g72 h73 => ?_))))))
    have ne74 : p2 ≠ p69 := Ls.ne h59 n71
    have nw75 := Gr.free g0 n71
    have h_a := Imm.mono g72 h_a
    have h59 := Ls.g0 g72 h59
    have h68 := Imm.mono g72 h68
    have g0 := g0.of0' g72
    refine rd_gn ?_
    refine rd_nx ?_
    refine rd_seq (rd_asg (rd_var rfl (rd_gn ?_)))
    refine rd_nx ?_
    refine seq_join (t := tWhile _ _) (wp_bind hm) (fun (s : (List (List Int)) × (List Int)) (σ : L2.St) (H : Hp) => ∃ (w83 : V), σ = [some v_a, some (.int a_p), some v_modulus, some (.int (((a_modulus).length : Int) - (1 : Int))), some (.ref p2), some v67, some (.ref p69), some w83, none, none, none] ∧ Gr [p69] H70 H ∧ Ls (rT K rI) H p69 s.1 ∧ (rT K rI) H s.2 w83) (fun N77 hN78 hm => ?_) (fun s79 σ H80 hr81 hm => ?_)
    · have gl82 := Gr.refl (A := [p69]) H70
      refine whl_R (fun (s : (List (List Int)) × (List Int)) (σ : L2.St) (H : Hp) => ∃ (w83 : V), σ = [some v_a, some (.int a_p), some v_modulus, some (.int (((a_modulus).length : Int) - (1 : Int))), some (.ref p2), some v67, some (.ref p69), some w83, none, none, none] ∧ Gr [p69] H70 H ∧ Ls (rT K rI) H p69 s.1 ∧ (rT K rI) H s.2 w83) (by exact wp_N hm (fun s σ' H' hr hz => hN78 s σ' H' hr hz)) ⟨_, rfl, gl82, h73, h_a⟩ (fun s84 σ H85 N87 W88 m89 hW90 hr86 hm => ?_)
      unfold m_powers_of_b2 at hm
      obtain ⟨w95, rfl, g93, h94, h96⟩ := hr86
      have h59 := Ls.gA g93 (nin1 ne74 nin0) h59
      have h68 := Imm.mono g93 h68
      have g0 := Gr.many g0 (all1 ((.inr nw75)) all0) g93
      have gl82 := Gr.many gl82 (all1 ((.inl (by simp))) all0) g93
      refine rd_T (rd_op (rd_var rfl (rd_var rfl (ne_D (DRep.tup (DRep.int K)) h96 h68 (rd_kB ?_)))))
      refine iteB' (fun e97 => ?_) (fun e97 => ?_)
      · exact ifF e97 hm _ _ ⟨_, rfl, gl82, h94, h96⟩
      have hm := ifT e97 hm
      unfold m_powers_of_b5 at hm
      refine ⟨N87, hW90, ?_⟩
      obtain ⟨c98, hm⟩ := wp_grd hm
      refine rd_seq (rd_drop (rd_bm (rd_var rfl ⟨(Ls.ty h94), rd_cons (rd_var rfl (rd_nil (rd_append h94 h96 c98 fun H99 g100 h101 => ?_)))⟩)))
      have h59 := Ls.g1 g100 ne74 h59
      have h68 := Imm.mono g100 h68
      have h96 := Imm.mono g100 h96
      have g0 := Gr.loc g0 nw75 g100
      have gl82 := Gr.at1 gl82 (by simp) g100
      refine rd_nx ?_
      obtain ⟨c102, hm⟩ := wp_grd hm
      refine rd_asg (rd_cb (rd_cons (rd_lc (rd_r1 (rd_cons (rd_var rfl (rd_nil ⟨_, rfl, c102.1, c102.2, fun p103 n104 => ?_⟩)))))))
      have ne105 : p2 ≠ p103 := Ls.ne h59 n104
      have ne106 : p69 ≠ p103 := Ls.ne h101 n104
      have nw107 := Gr.free g0 n104
      have nw108 := Gr.free gl82 n104
      refine lc_rng (lo := 0) (n := ((((a_modulus).length : Int) - (1 : Int))).toNat) (fun (s : List Int) (H : Hp) => Gr [] H99 H ∧ Ls rI H p103 s) (wp_bind hm) ⟨Gr.new n104, ⟨[], upd_same, .nil⟩⟩ (fun x113 s112 H116 N117 hr118 hm => ?_) (fun s119 H120 hr121 hm => ?_)
      · unfold m_powers_of_b4 at hm
        obtain ⟨g122, h123⟩ := hr118
        have h59 := Ls.gA g122 nin0 h59
        have h68 := Imm.mono g122 h68
        have h101 := Ls.gA g122 nin0 h101
        have h96 := Imm.mono g122 h96
        have g0 := Gr.of0' g0 g122
        have gl82 := Gr.of0' gl82 g122
        have gl124 := g122
        obtain ⟨a125, ea129, vs126, hl127, hp128⟩ := id h96
        obtain ⟨vs131, hl132, hp133⟩ := id (Ls.q h59)
        refine rd_gn ⟨rfl, rd_yes (iteT (rd_op (rd_cb (rd_cons (rd_lc (rd_izipTL (rd_cons (rd_var rfl (rd_cons (rd_var rfl (rd_nil (zip_tl ea129 rfl hl127 hl132 (fun p134 n135 => ?_)))))))))))))⟩
        have ne136 : p2 ≠ p134 := Ls.ne h59 n135
        have ne137 : p69 ≠ p134 := Ls.ne h101 n135
        have ne138 : p103 ≠ p134 := Ls.ne h123 n135
        have nw139 := Gr.free g0 n135
        have nw140 := Gr.free gl82 n135
        have nw141 := Gr.free gl124 n135
        refine lc_R (r := (rP K rI (rT K rI))) (H0 := H116) (H1 := H116) (wk_zipTL hp128 hp133) (fun (s : List Int) (H : Hp) => Gr [] H116 H ∧ Ls rI H p134 s) (wp_bind hm) ⟨Gr.new n135, ⟨[], upd_same, .nil⟩⟩ (fun _ _ hr => by obtain ⟨g, _⟩ := hr; exact ⟨⟨g.tup hl127, g.lst nin0 hl132⟩, _, g⟩) (fun x146 v147 s145 H149 H155 N150 hr151 hg156 hx148 hm => ?_) (fun s152 H153 hr154 hm => ?_)
        · unfold m_powers_of_b3 at hm
          obtain ⟨g157, h158⟩ := hr151
          have h59 := Ls.gA g157 nin0 h59
          have h68 := Imm.mono g157 h68
          have h101 := Ls.gA g157 nin0 h101
          have h96 := Imm.mono g157 h96
          have h123 := Ls.gA g157 nin0 h123
          have g0 := Gr.of0' g0 g157
          have gl82 := Gr.of0' gl82 g157
          have gl124 := Gr.of0' gl124 g157
          have gl159 := g157
          have h59 := Ls.g0 hg156 h59
          have h68 := Imm.mono hg156 h68
          have h101 := Ls.g0 hg156 h101
          have h96 := Imm.mono hg156 h96
          have h123 := Ls.g0 hg156 h123
          have h158 := Ls.g0 hg156 h158
          have g0 := g0.of0' hg156
          have gl82 := gl82.of0' hg156
          have gl124 := gl124.of0' hg156
          have gl159 := gl159.of0' hg156
          obtain ⟨a160, x161, x162, ea166, h163, h164, h165⟩ := id hx148
          obtain rfl := h164
          refine rd_gtE ea166 h163 rfl (rd_gc (rd_gn (rd_gc (rd_gn (rd_g0 ⟨rfl, rd_yes (iteT (rd_op (rd_var rfl (rd_op (rd_var rfl (rd_var rfl (ix_T h165 (wp_bind hm) fun t167 v168 h169 hm => ?_)))))))⟩)))))
          obtain rfl := h169
          obtain ⟨c170, hm⟩ := wp_grd hm
          obtain ⟨c171, hm⟩ := wp_grd hm
          refine rd_rI (c170) (lc_add h158 rfl c171 fun H172 g173 h174 => ?_)
          have h59 := Ls.g1 g173 ne136 h59
          have h68 := Imm.mono g173 h68
          have h101 := Ls.g1 g173 ne137 h101
          have h96 := Imm.mono g173 h96
          have h165 := Imm.mono g173 h165
          have h123 := Ls.g1 g173 ne138 h123
          have g0 := Gr.loc g0 nw139 g173
          have gl82 := Gr.loc gl82 nw140 g173
          have gl124 := Gr.loc gl124 nw141 g173
          have gl159 := Gr.loc gl159 n135 g173
          exact hm _ ⟨gl159, h174⟩
        obtain ⟨g175, h176⟩ := hr154
        have h59 := Ls.gA g175 nin0 h59
        have h68 := Imm.mono g175 h68
        have h101 := Ls.gA g175 nin0 h101
        have h96 := Imm.mono g175 h96
        have h123 := Ls.gA g175 nin0 h123
        have g0 := Gr.of0' g0 g175
        have gl82 := Gr.of0' gl82 g175
        have gl124 := Gr.of0' gl124 g175
        obtain ⟨c177, hm⟩ := wp_grd hm
        obtain ⟨c178, hm⟩ := wp_grd hm
        refine rd_nil (sum_L (Ls.q h176) (rd_var rfl (rd_rI c177 (lc_add h123 rfl c178 fun H179 g180 h181 => ?_))))
        have h59 := Ls.g1 g180 ne105 h59
        have h68 := Imm.mono g180 h68
        have h101 := Ls.g1 g180 ne106 h101
        have h96 := Imm.mono g180 h96
        have g0 := Gr.loc g0 nw107 g180
        have gl82 := Gr.loc gl82 nw108 g180
        have gl124 := Gr.loc gl124 n104 g180
        exact hm _ ⟨gl124, h181⟩
      obtain ⟨g182, h183⟩ := hr121
      have h59 := Ls.gA g182 nin0 h59
      have h68 := Imm.mono g182 h68
      have h101 := Ls.gA g182 nin0 h101
      have h96 := Imm.mono g182 h96
      have g0 := Gr.of0' g0 g182
      have gl82 := Gr.of0' gl82 g182
      refine rd_nil (tup_of_L (K := K) (Ls.q h183) fun v184 H185 g186 h187 => ?_)
      have h59 := Ls.g0 g186 h59
      have h68 := Imm.mono g186 h68
      have h101 := Ls.g0 g186 h101
      have h96 := Imm.mono g186 h96
      have g0 := g0.of0' g186
      have gl82 := gl82.of0' g186
      refine rd_gn ?_
      exact hm _ _ ⟨_, rfl, gl82, h101, h187⟩
    obtain ⟨w190, rfl, g188, h189, h191⟩ := hr81
    have h59 := Ls.gA g188 (nin1 ne74 nin0) h59
    have h68 := Imm.mono g188 h68
    have g0 := Gr.many g0 (all1 ((.inr nw75)) all0) g188
    refine rd_ret (rd_cb (rd_cons (rd_var rfl (rd_nil (tup_of_L (K := K) (Ls.q h189) fun v192 H193 g194 h195 => ?_)))))
    have h189 := Ls.g0 g194 h189
    have g0 := g0.of0' g194
    exact hm _ _ g0 h195

abbrev s_primitive_powers : Stmt := topS 34
abbrev n_primitive_powers : List Str := ["members", "p", "modulus", "at", "powers"]
theorem sc_primitive_powers : FnScope n_primitive_powers ["members", "p", "modulus"] (defScope s_primitive_powers) := ⟨rfl, rfl, rfl, by decide +kernel, rfl, by decide +kernel, by decide +kernel⟩
def m_primitive_powers_b1 (a_members : (List (List Int))) (s17 : Int × (List (List Int))) : R Bool :=
  R.ok (decide (((s17.2).length : Int) < (((a_members).length : Int) - (1 : Int))))
def m_primitive_powers_b2 (a_members : (List (List Int))) (a_p : Int) (a_modulus : (List Int)) (s17 : Int × (List (List Int))) : R (Int × (List (List Int))) :=
  (getL a_members (s17.1 + (1 : Int))).bind fun t30 => (m_powers_of t30 a_p a_modulus).bind fun t33 => R.ok ((s17.1 + (1 : Int)), t33)
def m_primitive_powers (a_members : (List (List Int))) (a_p : Int) (a_modulus : (List Int)) : R (List (List Int)) :=
  (getL a_members (1 : Int)).bind fun t1 => (m_powers_of t1 a_p a_modulus).bind fun t4 => (whileR (m_primitive_powers_b1 a_members) (m_primitive_powers_b2 a_members a_p a_modulus) 100000 ((1 : Int), t4)).bind fun s12 => R.ok s12.2
def sp_primitive_powers (K : PySem.W.Frag) (C : Xc) : Sp := fun vs H Q E => ∃ (a_members : (List (List Int))) (v_members : V) (a_p : Int) (a_modulus : (List Int)) (v_modulus : V), vs = [v_members, (.int a_p), v_modulus] ∧ (rT K (rT K rI)) H a_members v_members ∧ (rT K rI) H a_modulus v_modulus ∧ wp (m_primitive_powers a_members a_p a_modulus) (fun r => ∀ v H', Gr [] H H' → (rT K (rT K rI)) H' r v → Q v H') (XEr C [] H E)
theorem ok_primitive_powers {P : Program} {w : World} {K : PySem.W.Frag} {mg : Str → Option Value} {base : Heap} {f : Addr} {fd : FuncData} {c_fault c_zd c_mal c_refu : Addr} (F : Fun K "primitive_powers" "primitive_powers" s_primitive_powers f fd) (z_len : mg "len" = none) (c_powers_of : Cal P w K mg base (CX P w) 4 "powers_of" ["a", "p", "modulus"] (sp_powers_of K (⟨some c_fault, some c_zd, some c_mal, some c_refu, none⟩ : Xc))) : FnOk P w K mg base (CX P w) 5 f fd ["members", "p", "modulus"] (sp_primitive_powers K (⟨some c_fault, some c_zd, some c_mal, some c_refu, none⟩ : Xc)) := by
  obtain ⟨f_powers_of, fd_powers_of, G_powers_of, g_powers_of, k_powers_of, b_powers_of⟩ := c_powers_of
  refine F.okX sc_primitive_powers (fun vs H Q E h => ?_) (fun cdv A outer s H0 vs Q E hr h => ?_)
  · obtain ⟨a_members, v_members, a_p, a_modulus, v_modulus, rfl, h_members, h_modulus, hm⟩ := h
    rfl
  · obtain ⟨a_members, v_members, a_p, a_modulus, v_modulus, rfl, h_members, h_modulus, hm⟩ := h
    have hm : wp (m_primitive_powers a_members a_p a_modulus) _ _ := hm
    unfold m_primitive_powers at hm
    refine ⟨_, (pss_cons (ps_set (i := 3) sc_primitive_powers.nd rfl (Or.inl rfl) pe_int) (pss_cons (ps_set (i := 4) sc_primitive_powers.nd rfl (Or.inl rfl) (pe_callS G_powers_of (hr.mono (by decide)) (by rfl) g_powers_of k_powers_of b_powers_of (fun σ => passAt (takes_of rfl rfl rfl rfl) σ) (pa_cons (pe_ix (ix_tupK (K := K) rfl) (pv 0) (pv 3) (fun _ _ => rfl)) (pa_cons (pv 1) (pa_cons (pv 2) pa_nil))))) (pss_cons (ps_while PassesOwn.leaving (pt_cmpR op_lt (pe_callB (lenK (K := K) rfl) (by rfl) z_len PySem.boot_len (pa_cons (pv 4) pa_nil)) (pe_op op_sub (pe_callB (lenK (K := K) rfl) (by rfl) z_len PySem.boot_len (pa_cons (pv 0) pa_nil)) pe_int) (nomark _)) (pss_cons (ps_set (i := 3) sc_primitive_powers.nd rfl (Or.inl rfl) (pe_op op_add (pv 3) pe_int)) (pss_one (ps_set (i := 4) sc_primitive_powers.nd rfl (Or.inl rfl) (pe_callS G_powers_of (hr.mono (by decide)) (by rfl) g_powers_of k_powers_of b_powers_of (fun σ => passAt (takes_of rfl rfl rfl rfl) σ) (pa_cons (pe_ix (ix_tupK (K := K) rfl) (pv 0) (pv 3) (fun _ _ => rfl)) (pa_cons (pv 1) (pa_cons (pv 2) pa_nil)))))))) (pss_one (ps_ret (pv 4)))))), ?_⟩
    have g0 := Gr.refl (A := []) H0
    refine rd_seq (rd_asg (rd_c (rd_gn ?_)))
    refine rd_nx ?_
    refine rd_seq (rd_asg (rd_callS (rd_cons (rd_op (rd_var rfl (rd_var rfl (ix_T h_members (wp_bind hm) fun t1 v2 h3 hm => ?_)))))))
    refine rd_cons (rd_var rfl (rd_cons (rd_var rfl (rd_nil ⟨_, _, _, _, _, rfl, h3, h_modulus, wp_imp (wp_bind hm) (fun t4 hm v7 H5 g6 h8 => ?_) (fun _ e => XEr.sub g0 e)⟩))))
    have h_members := Imm.mono g6 h_members
    have h_modulus := Imm.mono g6 h_modulus
    have g0 := g0.of0' g6
    refine rd_gn ?_
    refine rd_nx ?_
    refine seq_join (t := tWhile _ _) (wp_bind hm) (fun (s : Int × (List (List Int))) (σ : L2.St) (H : Hp) => ∃ (w16 : V), σ = [some v_members, some (.int a_p), some v_modulus, some (.int s.1), some w16] ∧ Gr [] H5 H ∧ (rT K (rT K rI)) H s.2 w16) (fun N10 hN11 hm => ?_) (fun s12 σ H13 hr14 hm => ?_)
    · have gl15 := Gr.refl (A := []) H5
      refine whl_R (fun (s : Int × (List (List Int))) (σ : L2.St) (H : Hp) => ∃ (w16 : V), σ = [some v_members, some (.int a_p), some v_modulus, some (.int s.1), some w16] ∧ Gr [] H5 H ∧ (rT K (rT K rI)) H s.2 w16) (by exact wp_N hm (fun s σ' H' hr hz => hN11 s σ' H' hr hz)) ⟨_, rfl, gl15, h8⟩ (fun s17 σ H18 N20 W21 m22 hW23 hr19 hm => ?_)
      unfold m_primitive_powers_b1 at hm
      obtain ⟨w27, rfl, g26, h28⟩ := hr19
      have h_members := Imm.mono g26 h_members
      have h_modulus := Imm.mono g26 h_modulus
      have g0 := Gr.of0' g0 g26
      have gl15 := Gr.of0' gl15 g26
      refine rd_T (rd_op (rd_cb (rd_cons (rd_var rfl (rd_nil (len_T h28 (rd_op (rd_cb (rd_cons (rd_var rfl (rd_nil (len_T h_members (rd_c (rd_rI0 (rd_rI0 (rd_kB ?_))))))))))))))))
      refine iteB' (fun e29 => ?_) (fun e29 => ?_)
      · exact ifF e29 hm _ _ ⟨_, rfl, gl15, h28⟩
      have hm := ifT e29 hm
      unfold m_primitive_powers_b2 at hm
      refine ⟨N20, hW23, ?_⟩
      refine rd_seq (rd_asg (rd_op (rd_var rfl (rd_c (rd_rI0 (rd_gn ?_))))))
      refine rd_nx ?_
      refine rd_asg (rd_callS (rd_cons (rd_op (rd_var rfl (rd_var rfl (ix_T h_members (wp_bind hm) fun t30 v31 h32 hm => ?_))))))
      refine rd_cons (rd_var rfl (rd_cons (rd_var rfl (rd_nil ⟨_, _, _, _, _, rfl, h32, h_modulus, wp_imp (wp_bind hm) (fun t33 hm v36 H34 g35 h37 => ?_) (fun _ e => XEr.sub g0 e)⟩))))
      have h_members := Imm.mono g35 h_members
      have h_modulus := Imm.mono g35 h_modulus
      have g0 := g0.of0' g35
      have gl15 := gl15.of0' g35
      refine rd_gn ?_
      exact hm _ _ ⟨_, rfl, gl15, h37⟩
    obtain ⟨w39, rfl, g38, h40⟩ := hr14
    have h_members := Imm.mono g38 h_members
    have h_modulus := Imm.mono g38 h_modulus
    have g0 := Gr.of0' g0 g38
    exact rd_ret (rd_var rfl (hm _ _ g0 h40))

abbrev s_written_power : Stmt := topS 37
abbrev n_written_power : List Str := ["name", "k"]
theorem sc_written_power : FnScope n_written_power ["name", "k"] (defScope s_written_power) := ⟨rfl, rfl, rfl, by decide +kernel, rfl, by decide +kernel, by decide +kernel⟩
def m_written_power (a_name : PySem.Str) (a_k : Int) : R PySem.Str :=
  ((R.ok (decide (a_k = (1 : Int)))).bind fun b => if b = true then R.ok a_name else grd (strOk a_name) <| grd (strOk ((PySem.Str.empty) ++ a_name)) <| grd (strOk (((PySem.Str.empty) ++ a_name) ++ ("^" : PySem.Str))) <| grd (fmtOk a_k) <| grd (strOk ((((PySem.Str.empty) ++ a_name) ++ ("^" : PySem.Str)) ++ ((toString a_k : String) : PySem.Str))) <| R.ok ((((PySem.Str.empty) ++ a_name) ++ ("^" : PySem.Str)) ++ ((toString a_k : String) : PySem.Str))).bind fun t13 => R.ok t13
def sp_written_power (K : PySem.W.Frag) : Sp := fun vs H Q _ => ∃ (a_name : PySem.Str) (a_k : Int), vs = [(.str a_name), (.int a_k)] ∧ wp (m_written_power a_name a_k) (fun r => ∀ H', Gr [] H H' → Q (.str r) H') (fun _ => False)
theorem ok_written_power {P : Program} {w : World} {K : PySem.W.Frag} {mg : Str → Option Value} {base : Heap} {f : Addr} {fd : FuncData} (F : Fun K "written_power" "written_power" s_written_power f fd) : FnOk P w K mg base CX0 1 f fd ["name", "k"] (sp_written_power K) := by
  refine F.ok sc_written_power (fun vs H Q E h => ?_) (fun cdv A outer s H0 vs Q E hr h => ?_)
  · obtain ⟨a_name, a_k, rfl, hm⟩ := h
    rfl
  · obtain ⟨a_name, a_k, rfl, hm⟩ := h
    have hm : wp (m_written_power a_name a_k) _ _ := hm
    unfold m_written_power at hm
    refine ⟨_, (pss_one (ps_ret (pe_ifExp (pt_cmpR op_eqI (pv 1) pe_int (nomark _)) (pv 0) (pe_joined (.cons (pe_fmt (pv 0)) (.cons pe_str (.cons (pe_fmt (pv 1)) .nil))))))), ?_⟩
    have g0 := Gr.refl (A := []) H0
    refine rd_ret ((ev_if (r := rS) (fun Q hm => by
        have gb1 := Gr.refl (A := []) H0
        exact rd_T (rd_op (rd_var rfl (rd_c (rd_rI0 (rd_kB (hm _ gb1))))))) (fun H2 g3 Q hm => by
        have g0 := g0.of0' g3
        have gb4 := Gr.refl (A := []) H2
        exact rd_var rfl (hm _ _ gb4 rfl)) (fun H5 g6 Q hm => by
        have g0 := g0.of0' g6
        have gb7 := Gr.refl (A := []) H5
        obtain ⟨c8, hm⟩ := wp_grd hm
        obtain ⟨c9, hm⟩ := wp_grd hm
        obtain ⟨c10, hm⟩ := wp_grd hm
        obtain ⟨c11, hm⟩ := wp_grd hm
        obtain ⟨c12, hm⟩ := wp_grd hm
        exact rd_jd (rd_jc (rd_fmt (rd_var rfl (fmt_S c8 (rd_js c9 (rd_jc (rd_c (rd_js c10 (rd_jc (rd_fmt (rd_var rfl (fmt_I c11 (rd_js c12 (rd_j0 (hm _ _ gb7 rfl))))))))))))))))) _ (wp_imp (wp_bind hm) (fun t13 hm v14 H15 g16 h17 => ?_) (fun _ e => e)))
    have g0 := g0.of0' g16
    obtain rfl := h17
    exact hm _ g0

abbrev s_written_term : Stmt := topS 36
abbrev n_written_term : List Str := ["coefficient", "k", "power"]
theorem sc_written_term : FnScope n_written_term ["coefficient", "k"] (defScope s_written_term) := ⟨rfl, rfl, rfl, by decide +kernel, rfl, by decide +kernel, by decide +kernel⟩
def m_written_term (a_coefficient : Int) (a_k : Int) : R PySem.Str :=
  if (decide (a_k = (0 : Int))) = true then (grd (fmtOk a_coefficient) <| R.ok ((toString a_coefficient : String) : PySem.Str)) else ((m_written_power ("t" : PySem.Str) a_k).bind fun t3 => ((R.ok (decide (a_coefficient = (1 : Int)))).bind fun b => if b = true then R.ok t3 else grd (fmtOk a_coefficient) <| grd (strOk ((PySem.Str.empty) ++ ((toString a_coefficient : String) : PySem.Str))) <| grd (strOk (((PySem.Str.empty) ++ ((toString a_coefficient : String) : PySem.Str)) ++ ("*" : PySem.Str))) <| grd (strOk t3) <| grd (strOk ((((PySem.Str.empty) ++ ((toString a_coefficient : String) : PySem.Str)) ++ ("*" : PySem.Str)) ++ t3)) <| R.ok ((((PySem.Str.empty) ++ ((toString a_coefficient : String) : PySem.Str)) ++ ("*" : PySem.Str)) ++ t3)).bind fun t18 => R.ok t18)
def sp_written_term (K : PySem.W.Frag) : Sp := fun vs H Q _ => ∃ (a_coefficient : Int) (a_k : Int), vs = [(.int a_coefficient), (.int a_k)] ∧ wp (m_written_term a_coefficient a_k) (fun r => ∀ H', Gr [] H H' → Q (.str r) H') (fun _ => False)
theorem ok_written_term {P : Program} {w : World} {K : PySem.W.Frag} {mg : Str → Option Value} {base : Heap} {f : Addr} {fd : FuncData} (F : Fun K "written_term" "written_term" s_written_term f fd) (c_written_power : Cal P w K mg base CX0 1 "written_power" ["name", "k"] (sp_written_power K)) : FnOk P w K mg base CX0 2 f fd ["coefficient", "k"] (sp_written_term K) := by
  obtain ⟨f_written_power, fd_written_power, G_written_power, g_written_power, k_written_power, b_written_power⟩ := c_written_power
  refine F.ok sc_written_term (fun vs H Q E h => ?_) (fun cdv A outer s H0 vs Q E hr h => ?_)
  · obtain ⟨a_coefficient, a_k, rfl, hm⟩ := h
    rfl
  · obtain ⟨a_coefficient, a_k, rfl, hm⟩ := h
    have hm : wp (m_written_term a_coefficient a_k) _ _ := hm
    unfold m_written_term at hm
    refine ⟨_, (pss_cons (ps_if (pt_cmpR op_eqI (pv 1) pe_int (nomark _)) (pss_one (ps_ret (pe_joined1 (pe_fmt (pv 0))))) pss_nil) (pss_cons (ps_set (i := 2) sc_written_term.nd rfl (Or.inl rfl) (pe_call G_written_power (hr.mono (by decide)) (by rfl) g_written_power k_written_power b_written_power .nil pass0 (pa_cons pe_str (pa_cons (pv 1) pa_nil)))) (pss_one (ps_ret (pe_ifExp (pt_cmpR op_eqI (pv 0) pe_int (nomark _)) (pv 2) (pe_joined (.cons (pe_fmt (pv 0)) (.cons pe_str (.cons (pe_fmt (pv 2)) .nil))))))))), ?_⟩
    have g0 := Gr.refl (A := []) H0
    refine rd_seq (rd_if (rd_T (rd_op (rd_var rfl (rd_c (rd_rI0 (rd_kB ?_)))))))
    refine iteB (fun e1 => ?_) (fun e1 => ?_)
    · have hm := ifT e1 (wp_iteB hm)
      obtain ⟨c2, hm⟩ := wp_grd hm
      exact rd_ret (rd_fmt (rd_var rfl (fmt_I c2 (hm _ g0))))
    have hm := ifF e1 (wp_iteB hm)
    refine rd_next (rd_nx ?_)
    refine rd_seq (rd_asg (rd_call (rd_cons (rd_c (rd_cons (rd_var rfl (rd_nil ⟨_, _, rfl, wp_imp (wp_bind hm) (fun t3 hm H4 g5 => ?_) (fun _ e => e)⟩)))))))
    have g0 := g0.of0' g5
    refine rd_gn ?_
    refine rd_nx ?_
    refine rd_ret ((ev_if (r := rS) (fun Q hm => by
        have gb6 := Gr.refl (A := []) H4
        exact rd_T (rd_op (rd_var rfl (rd_c (rd_rI0 (rd_kB (hm _ gb6))))))) (fun H7 g8 Q hm => by
        have g0 := g0.of0' g8
        have gb9 := Gr.refl (A := []) H7
        exact rd_var rfl (hm _ _ gb9 rfl)) (fun H10 g11 Q hm => by
        have g0 := g0.of0' g11
        have gb12 := Gr.refl (A := []) H10
        obtain ⟨c13, hm⟩ := wp_grd hm
        obtain ⟨c14, hm⟩ := wp_grd hm
        obtain ⟨c15, hm⟩ := wp_grd hm
        obtain ⟨c16, hm⟩ := wp_grd hm
        obtain ⟨c17, hm⟩ := wp_grd hm
        exact rd_jd (rd_jc (rd_fmt (rd_var rfl (fmt_I c13 (rd_js c14 (rd_jc (rd_c (rd_js c15 (rd_jc (rd_fmt (rd_var rfl (fmt_S c16 (rd_js c17 (rd_j0 (hm _ _ gb12 rfl))))))))))))))))) _ (wp_imp (wp_bind hm) (fun t18 hm v19 H20 g21 h22 => ?_) (fun _ e => e)))
    have g0 := g0.of0' g21
    obtain rfl := h22
    exact hm _ g0

abbrev s_Field_written : Stmt := inClass (topS 31) 18
abbrev n_Field_written : List Str := ["self", "a", "terms", "k"]
theorem sc_Field_written : FnScope n_Field_written ["self", "a"] (defScope s_Field_written) := ⟨rfl, rfl, rfl, by decide +kernel, rfl, by decide +kernel, by decide +kernel⟩
def m_Field_written_b1 (a_a : (List Int)) (s8 : List PySem.Str) (x9 : Int) : R (List PySem.Str) :=
  (getL a_a x9).bind fun t23 => if (!decide (t23 = (0 : Int))) = true then ((getL a_a x9).bind fun t27 => (m_written_term t27 x9).bind fun t30 => grd (lenLt s8) <| R.ok (s8 ++ [t30])) else R.ok s8
def m_Field_written (a_self : (Int × (List Int) × Int × Int × (List (List Int)) × (List (List Int)) × (List ((List Int) × Int)))) (a_a : (List Int)) : R PySem.Str :=
  grd (rgOk a_self.2.2.1) <| (foldR (m_Field_written_b1 a_a) ([]) (rngC (((a_self.2.2.1).toNat : Int) - 1) (-1) (a_self.2.2.1).toNat)).bind fun s15 => ((R.ok (!(s15).isEmpty)).bind fun b => if b = true then grd (joinOk ("+" : PySem.Str) s15) <| R.ok (Txt.join ("+" : PySem.Str) s15) else R.ok ("0" : PySem.Str)).bind fun t47 => R.ok t47
def sp_Field_written (K : PySem.W.Frag) (c_Field : Addr) : Sp := fun vs H Q _ => ∃ (a_self : (Int × (List Int) × Int × Int × (List (List Int)) × (List (List Int)) × (List ((List Int) × Int)))) (p_self : Addr) (d_self : Addr) (w_self_1 : V) (w_self_4 : V) (w_self_5 : V) (w_self_6 : V) (a_a : (List Int)) (v_a : V), vs = [.ref p_self, v_a] ∧ H p_self = some (.ins c_Field d_self [("p", (.int a_self.1)), ("modulus", w_self_1), ("n", (.int a_self.2.2.1)), ("q", (.int a_self.2.2.2.1)), ("_members", w_self_4), ("_powers", w_self_5), ("_logarithms", w_self_6)]) ∧ (rT K rI) H a_self.2.1 w_self_1 ∧ (rT K (rT K rI)) H a_self.2.2.2.2.1 w_self_4 ∧ (rT K (rT K rI)) H a_self.2.2.2.2.2.1 w_self_5 ∧ (rDA K rI) H a_self.2.2.2.2.2.2 w_self_6 ∧ (rT K rI) H a_a v_a ∧ wp (m_Field_written a_self a_a) (fun r => ∀ H', Gr [] H H' → Q (.str r) H') (fun _ => False)
theorem ok_Field_written {P : Program} {w : World} {K : PySem.W.Frag} {mg : Str → Option Value} {base : Heap} {f : Addr} {fd : FuncData} {c_Field : Addr} (F : Fun K "written" "Field.written" s_Field_written f fd) (z_reversed : mg "reversed" = none) (z_range : mg "range" = none) (kl_Field : Cls K c_Field) (na_Field_n : NoAttr K c_Field "n") (c_written_term : Cal P w K mg base CX0 2 "written_term" ["coefficient", "k"] (sp_written_term K)) : FnOk P w K mg base CX0 3 f fd ["self", "a"] (sp_Field_written K c_Field) := by
  obtain ⟨f_written_term, fd_written_term, G_written_term, g_written_term, k_written_term, b_written_term⟩ := c_written_term
  refine F.ok sc_Field_written (fun vs H Q E h => ?_) (fun cdv A outer s H0 vs Q E hr h => ?_)
  · obtain ⟨a_self, p_self, d_self, w_self_1, w_self_4, w_self_5, w_self_6, a_a, v_a, rfl, h_self, h_self_1, h_self_4, h_self_5, h_self_6, h_a, hm⟩ := h
    rfl
  · obtain ⟨a_self, p_self, d_self, w_self_1, w_self_4, w_self_5, w_self_6, a_a, v_a, rfl, h_self, h_self_1, h_self_4, h_self_5, h_self_6, h_a, hm⟩ := h
    have hm : wp (m_Field_written a_self a_a) _ _ := hm
    unfold m_Field_written at hm
    refine ⟨_, (pss_cons (ps_setLc (i := 2) (own := [("k", 3)]) (g := gName 3) rfl sc_Field_written.nd rfl rfl (sw_true rfl rfl rfl (by decide +kernel)) (pi_revR (by rfl) z_reversed (prg_1 (by rfl) z_range (pe_fldK (K := K) rfl (pv 0) rfl))) (blkOk_by (own := [("k", 3)]) (N := n_Field_written) (sc := defScope s_Field_written) (by decide +kernel)) (fun _ _ _ _ _ => pg_name (i := 3) sc_Field_written.nd rfl (Or.inl rfl)) (fun _ _ _ _ _ => pts_one (pt_cmpR op_neI (pe_ix (ix_tupK (K := K) rfl) (pv 1) (pv 3) (fun _ _ => rfl)) pe_int (nomark _))) (fun _ _ _ _ _ => (pe_call G_written_term (hr.mono (by decide)) (by rfl) g_written_term k_written_term b_written_term .nil pass0 (pa_cons (pe_ix (ix_tupK (K := K) rfl) (pv 1) (pv 3) (fun _ _ => rfl)) (pa_cons (pv 3) pa_nil))))) (pss_one (ps_ret (pe_ifExp (pt_tru (K := K) (pv 2) rfl) (pe_joinK (K := K) pe_str (pv 2) rfl) pe_str)))), ?_⟩
    have g0 := Gr.refl (A := []) H0
    obtain ⟨c1, hm⟩ := wp_grd hm
    refine rd_seq (rd_asg (rd_lc (rd_irev (rd_fld (rd_var rfl (get_fld h_self kl_Field na_Field_n rfl (rd_rev c1 (fun p2 n3 => ?_))))))))
    have nw4 := Gr.free g0 n3
    refine lc_R (r := rI) (H0 := H0) (H1 := H0) wk_rngC (fun (s : List PySem.Str) (H : Hp) => Gr [] H0 H ∧ Ls rS H p2 s) (wp_bind hm) ⟨Gr.new n3, ⟨[], upd_same, .nil⟩⟩ (fun _ _ hr => by obtain ⟨g, _⟩ := hr; exact ⟨trivial, _, g⟩) (fun x9 v10 s8 H12 H18 N13 hr14 hg19 hx11 hm => ?_) (fun s15 H16 hr17 hm => ?_)
    · unfold m_Field_written_b1 at hm
      obtain ⟨g20, h21⟩ := hr14
      have h_self_1 := Imm.mono g20 h_self_1
      have h_self_4 := Imm.mono g20 h_self_4
      have h_self_5 := Imm.mono g20 h_self_5
      have h_self_6 := Imm.mono g20 h_self_6
      have h_self := ins_gA g20 nin0 h_self
      have h_a := Imm.mono g20 h_a
      have g0 := Gr.of0' g0 g20
      have gl22 := g20
      have h_self_1 := Imm.mono hg19 h_self_1
      have h_self_4 := Imm.mono hg19 h_self_4
      have h_self_5 := Imm.mono hg19 h_self_5
      have h_self_6 := Imm.mono hg19 h_self_6
      have h_self := ins_g0 hg19 h_self
      have h_a := Imm.mono hg19 h_a
      have h21 := Ls.g0 hg19 h21
      have g0 := g0.of0' hg19
      have gl22 := gl22.of0' hg19
      obtain rfl := hx11
      refine rd_gn ⟨rfl, ?_⟩
      refine rd_T (rd_op (rd_op (rd_var rfl (rd_var rfl (ix_T h_a (wp_bind hm) fun t23 v24 h25 hm => ?_)))))
      obtain rfl := h25
      refine rd_c (rd_rI0 (rd_kB ?_))
      refine iteB' (fun e26 => ?_) (fun e26 => ?_)
      · exact ifF e26 (wp_iteB hm) _ ⟨gl22, h21⟩
      have hm := ifT e26 (wp_iteB hm)
      refine rd_call (rd_cons (rd_op (rd_var rfl (rd_var rfl (ix_T h_a (wp_bind hm) fun t27 v28 h29 hm => ?_)))))
      obtain rfl := h29
      refine rd_cons (rd_var rfl (rd_nil ⟨_, _, rfl, wp_imp (wp_bind hm) (fun t30 hm H31 g32 => ?_) (fun _ e => e)⟩))
      have h_self_1 := Imm.mono g32 h_self_1
      have h_self_4 := Imm.mono g32 h_self_4
      have h_self_5 := Imm.mono g32 h_self_5
      have h_self_6 := Imm.mono g32 h_self_6
      have h_self := ins_g0 g32 h_self
      have h_a := Imm.mono g32 h_a
      have h21 := Ls.g0 g32 h21
      have g0 := g0.of0' g32
      have gl22 := gl22.of0' g32
      obtain ⟨c33, hm⟩ := wp_grd hm
      refine lc_add h21 rfl c33 fun H34 g35 h36 => ?_
      have h_self_1 := Imm.mono g35 h_self_1
      have h_self_4 := Imm.mono g35 h_self_4
      have h_self_5 := Imm.mono g35 h_self_5
      have h_self_6 := Imm.mono g35 h_self_6
      have h_self := ins_gA g35 (nin1 (ins_ne h_self h21) nin0) h_self
      have h_a := Imm.mono g35 h_a
      have g0 := Gr.loc g0 nw4 g35
      have gl22 := Gr.loc gl22 n3 g35
      exact hm _ ⟨gl22, h36⟩
    obtain ⟨g37, h38⟩ := hr17
    have h_self_1 := Imm.mono g37 h_self_1
    have h_self_4 := Imm.mono g37 h_self_4
    have h_self_5 := Imm.mono g37 h_self_5
    have h_self_6 := Imm.mono g37 h_self_6
    have h_self := ins_gA g37 nin0 h_self
    have h_a := Imm.mono g37 h_a
    have g0 := Gr.of0' g0 g37
    refine rd_gn ?_
    refine rd_nx ?_
    refine rd_ret ((ev_if (r := rS) (fun Q hm => by
        have gb39 := Gr.refl (A := []) H16
        exact rd_Tru (rd_var rfl (tru_L (Ls.q h38) (hm _ gb39)))) (fun H40 g41 Q hm => by
        have h_self_1 := Imm.mono g41 h_self_1
        have h_self_4 := Imm.mono g41 h_self_4
        have h_self_5 := Imm.mono g41 h_self_5
        have h_self_6 := Imm.mono g41 h_self_6
        have h38 := Ls.g0 g41 h38
        have g0 := g0.of0' g41
        have gb42 := Gr.refl (A := []) H40
        obtain ⟨c43, hm⟩ := wp_grd hm
        exact rd_join (rd_var rfl (join_L (Ls.q h38) c43 (hm _ _ gb42 rfl)))) (fun H44 g45 Q hm => by
        have h_self_1 := Imm.mono g45 h_self_1
        have h_self_4 := Imm.mono g45 h_self_4
        have h_self_5 := Imm.mono g45 h_self_5
        have h_self_6 := Imm.mono g45 h_self_6
        have h38 := Ls.g0 g45 h38
        have g0 := g0.of0' g45
        have gb46 := Gr.refl (A := []) H44
        exact rd_c (hm _ _ gb46 rfl))) _ (wp_imp (wp_bind hm) (fun t47 hm v48 H49 g50 h51 => ?_) (fun _ e => e)))
    have h_self_1 := Imm.mono g50 h_self_1
    have h_self_4 := Imm.mono g50 h_self_4
    have h_self_5 := Imm.mono g50 h_self_5
    have h_self_6 := Imm.mono g50 h_self_6
    have h38 := Ls.g0 g50 h38
    have g0 := g0.of0' g50
    obtain rfl := h51
    exact hm _ g0

abbrev O_Field : Type := Int × (List Int) × Int × Int × (List (List Int)) × (List (List Int)) × (List ((List Int) × Int)) × (List (PySem.Str × (List Int)))
def rO_Field (K : PySem.W.Frag) (c_Field : Addr) : Rp O_Field := fun H x v => ∃ (a dx : Addr) (v0 v1 v2 v3 v4 v5 v6 v7 : V), v = .ref a ∧ H a = some (.ins c_Field dx [("p", v0), ("modulus", v1), ("n", v2), ("q", v3), ("_members", v4), ("_powers", v5), ("_logarithms", v6), ("_texts", v7)]) ∧ rI H x.1 v0 ∧ (rT K rI) H x.2.1 v1 ∧ rI H x.2.2.1 v2 ∧ rI H x.2.2.2.1 v3 ∧ (rT K (rT K rI)) H x.2.2.2.2.1 v4 ∧ (rT K (rT K rI)) H x.2.2.2.2.2.1 v5 ∧ (rDA K rI) H x.2.2.2.2.2.2.1 v6 ∧ (rDS (rT K rI)) H x.2.2.2.2.2.2.2 v7
instance {K : PySem.W.Frag} {c : Addr} : Imm (rO_Field K c) := ⟨fun g ⟨a, dx, v0, v1, v2, v3, v4, v5, v6, v7, e, h, h0, h1, h2, h3, h4, h5, h6, h7⟩ => ⟨a, dx, v0, v1, v2, v3, v4, v5, v6, v7, e, g _ _ h rfl, Imm.im (r := rI) g h0, Imm.im (r := (rT K rI)) g h1, Imm.im (r := rI) g h2, Imm.im (r := rI) g h3, Imm.im (r := (rT K (rT K rI))) g h4, Imm.im (r := (rT K (rT K rI))) g h5, Imm.im (r := (rDA K rI)) g h6, Imm.im (r := (rDS (rT K rI))) g h7⟩⟩
instance {K : PySem.W.Frag} {c : Addr} : NoN (rO_Field K c) := ⟨fun ⟨a, dx, v0, v1, v2, v3, v4, v5, v6, v7, e, _⟩ z => by rw [e] at z; cases z⟩
theorem fld_Field_p {K : PySem.W.Frag} {c : Addr} {H : Hp} {x : O_Field} {v : V} {Q : VK} (h : rO_Field K c H x v) (k : Cls K c) (n : NoAttr K c "p") (q : ∀ w, rI H x.1 w → Q w H) : fldA K "p" Q v H := by
  obtain ⟨a, dx, v0, v1, v2, v3, v4, v5, v6, v7, rfl, e, h0, h1, h2, h3, h4, h5, h6, h7⟩ := h
  exact get_fld e k n rfl (q _ h0)
theorem fld_Field_n {K : PySem.W.Frag} {c : Addr} {H : Hp} {x : O_Field} {v : V} {Q : VK} (h : rO_Field K c H x v) (k : Cls K c) (n : NoAttr K c "n") (q : ∀ w, rI H x.2.2.1 w → Q w H) : fldA K "n" Q v H := by
  obtain ⟨a, dx, v0, v1, v2, v3, v4, v5, v6, v7, rfl, e, h0, h1, h2, h3, h4, h5, h6, h7⟩ := h
  exact get_fld e k n rfl (q _ h2)
theorem fld_Field_q {K : PySem.W.Frag} {c : Addr} {H : Hp} {x : O_Field} {v : V} {Q : VK} (h : rO_Field K c H x v) (k : Cls K c) (n : NoAttr K c "q") (q : ∀ w, rI H x.2.2.2.1 w → Q w H) : fldA K "q" Q v H := by
  obtain ⟨a, dx, v0, v1, v2, v3, v4, v5, v6, v7, rfl, e, h0, h1, h2, h3, h4, h5, h6, h7⟩ := h
  exact get_fld e k n rfl (q _ h3)
theorem fld_Field__members {K : PySem.W.Frag} {c : Addr} {H : Hp} {x : O_Field} {v : V} {Q : VK} (h : rO_Field K c H x v) (k : Cls K c) (n : NoAttr K c "_members") (q : ∀ w, (rT K (rT K rI)) H x.2.2.2.2.1 w → Q w H) : fldA K "_members" Q v H := by
  obtain ⟨a, dx, v0, v1, v2, v3, v4, v5, v6, v7, rfl, e, h0, h1, h2, h3, h4, h5, h6, h7⟩ := h
  exact get_fld e k n rfl (q _ h4)
theorem fld_Field__powers {K : PySem.W.Frag} {c : Addr} {H : Hp} {x : O_Field} {v : V} {Q : VK} (h : rO_Field K c H x v) (k : Cls K c) (n : NoAttr K c "_powers") (q : ∀ w, (rT K (rT K rI)) H x.2.2.2.2.2.1 w → Q w H) : fldA K "_powers" Q v H := by
  obtain ⟨a, dx, v0, v1, v2, v3, v4, v5, v6, v7, rfl, e, h0, h1, h2, h3, h4, h5, h6, h7⟩ := h
  exact get_fld e k n rfl (q _ h5)
theorem fld_Field__logarithms {K : PySem.W.Frag} {c : Addr} {H : Hp} {x : O_Field} {v : V} {Q : VK} (h : rO_Field K c H x v) (k : Cls K c) (n : NoAttr K c "_logarithms") (q : ∀ w, (rDA K rI) H x.2.2.2.2.2.2.1 w → Q w H) : fldA K "_logarithms" Q v H := by
  obtain ⟨a, dx, v0, v1, v2, v3, v4, v5, v6, v7, rfl, e, h0, h1, h2, h3, h4, h5, h6, h7⟩ := h
  exact get_fld e k n rfl (q _ h6)
theorem meth_Field {K : PySem.W.Frag} {c : Addr} {H : Hp} {x : O_Field} {v : V} {m : Str} {N : V → Hp → Prop} (h : rO_Field K c H x v) (l : (["p", "modulus", "n", "q", "_members", "_powers", "_logarithms", "_texts"] : List Str).all (fun k => !(m == k)) = true) (q : N v H) : methA c m N v H := by
  obtain ⟨a, dx, v0, v1, v2, v3, v4, v5, v6, v7, rfl, e, h0, h1, h2, h3, h4, h5, h6, h7⟩ := h
  exact on_meth e (lookup_no l) q
abbrev s_Field___init__ : Stmt := inClass (topS 31) 0
abbrev n_Field___init__ : List Str := ["self", "p", "modulus", "k", "a", "number"]
theorem sc_Field___init__ : FnScope n_Field___init__ ["self", "p", "modulus"] (defScope s_Field___init__) := ⟨rfl, rfl, rfl, by decide +kernel, rfl, by decide +kernel, by decide +kernel⟩
def m_Field___init___b1 (a_p : Int) (a_modulus : (List Int)) (s30 : List (List Int)) (x31 : Int) : R (List (List Int)) :=
  (noEr (m_digits x31 a_p (((a_modulus).length : Int) - (1 : Int)))).bind fun t43 => grd (lenLt s30) <| R.ok (s30 ++ [t43])
def m_Field___init___b2 (s78 : (List ((List Int) × Int))) (x79 : (Int × (List Int))) : R (List ((List Int) × Int)) :=
  grd (lenLt s78) <| R.ok (putM s78 x79.2 x79.1)
def m_Field___init___b3 (a_p : Int) (a_modulus : (List Int)) (t18 : Int) (s37 : List (List Int)) (t61 : (List (List Int))) (s87 : (List ((List Int) × Int))) (s121 : (List (PySem.Str × (List Int)))) (x122 : (List Int)) : R (List (PySem.Str × (List Int))) :=
  (noEr (m_Field_written (a_p, a_modulus, (((a_modulus).length : Int) - (1 : Int)), t18, s37, t61, s87) x122)).bind fun t136 => grd (lenLt s121) <| R.ok (putM s121 t136 x122)
def m_Field___init__ (a_self : Unit) (a_p : Int) (a_modulus : (List Int)) : R O_Field :=
  (m_check_making a_p a_modulus).bind fun t1 => (noEr (m_power_within a_p (((a_modulus).length : Int) - (1 : Int)) (400 : Int))).bind fun t13 => (unO t13).bind fun t18 => grd (rgOk t18) <| (foldR (m_Field___init___b1 a_p a_modulus) ([]) (rng 0 (t18).toNat)).bind fun s37 => (m_primitive_powers s37 a_p a_modulus).bind fun t61 => (foldR m_Field___init___b2 [] (enumF t61)).bind fun s87 => (foldR (m_Field___init___b3 a_p a_modulus t18 s37 t61 s87) [] s37).bind fun s130 => R.ok (a_p, a_modulus, (((a_modulus).length : Int) - (1 : Int)), t18, s37, t61, s87, s130)
def sp_Field___init__ (K : PySem.W.Frag) (c_Field : Addr) (C : Xc) (TT : List Addr) : Sp := fun vs H Q E => ∃ (a_self : Unit) (p_self : Addr) (d_self : Addr) (a_p : Int) (a_modulus : (List Int)) (v_modulus : V) (Hb : Hp), vs = [.ref p_self, (.int a_p), v_modulus] ∧ Gr [] Hb H ∧ Hb p_self = none ∧ H p_self = some (.ins c_Field d_self []) ∧ (rT K rI) H a_modulus v_modulus ∧ TabsA TT Hb ∧ wp (m_Field___init__ a_self a_p a_modulus) (fun r => ∀ H', Gr [] Hb H' → (rO_Field K c_Field) H' r (.ref p_self) → Q .non H') (XEr C [] Hb E)
theorem ok_Field___init__ {P : Program} {w : World} {K : PySem.W.Frag} {mg : Str → Option Value} {base : Heap} {f : Addr} {fd : FuncData} {dvs : List V} {c_fault c_zd c_mal c_refu : Addr} {TT : List Addr} {tk_MOST_MEMBERS : Tok} {c_Field : Addr} (F : L2.FunD K "__init__" "Field.__init__" (defArgs s_Field___init__) (defBody s_Field___init__) (defScope s_Field___init__) dvs [] f fd) (z_tuple : mg "tuple" = none) (z_len : mg "len" = none) (z_range : mg "range" = none) (z_enumerate : mg "enumerate" = none) (kl_Field : Cls K c_Field) (na_Field_p : NoAttr K c_Field "p") (na_Field_modulus : NoAttr K c_Field "modulus") (na_Field_n : NoAttr K c_Field "n") (gk_MOST_MEMBERS : mg "MOST_MEMBERS" = some (.int 400 tk_MOST_MEMBERS)) (na_Field_q : NoAttr K c_Field "q") (na_Field__members : NoAttr K c_Field "_members") (na_Field__powers : NoAttr K c_Field "_powers") (na_Field__logarithms : NoAttr K c_Field "_logarithms") (na_Field__texts : NoAttr K c_Field "_texts") (c_check_making : Cal P w K mg base (CX P w) 8 "check_making" ["p", "modulus"] (sp_check_making K (⟨some c_fault, some c_zd, some c_mal, some c_refu, none⟩ : Xc) TT)) (c_power_within : Cal P w K mg base CX0 1 "power_within" ["a", "k", "limit"] (sp_power_within K)) (c_digits : Cal P w K mg base CX0 1 "digits" ["number", "base", "count"] (sp_digits K)) (c_primitive_powers : Cal P w K mg base (CX P w) 5 "primitive_powers" ["members", "p", "modulus"] (sp_primitive_powers K (⟨some c_fault, some c_zd, some c_mal, some c_refu, none⟩ : Xc))) (c_Field_written : CalM P w K mg base CX0 3 c_Field "written" ["self", "a"] (sp_Field_written K c_Field)) : FnOk P w K mg base (CX P w) 9 f fd ["self", "p", "modulus"] (sp_Field___init__ K c_Field (⟨some c_fault, some c_zd, some c_mal, some c_refu, none⟩ : Xc) TT) := by
  obtain ⟨f_check_making, fd_check_making, G_check_making, g_check_making, k_check_making, b_check_making⟩ := c_check_making
  obtain ⟨f_power_within, fd_power_within, G_power_within, g_power_within, k_power_within, b_power_within⟩ := c_power_within
  obtain ⟨f_digits, fd_digits, G_digits, g_digits, k_digits, b_digits⟩ := c_digits
  obtain ⟨f_primitive_powers, fd_primitive_powers, G_primitive_powers, g_primitive_powers, k_primitive_powers, b_primitive_powers⟩ := c_primitive_powers
  obtain ⟨f_Field_written, fd_Field_written, G_Field_written, M_Field_written, b_Field_written⟩ := c_Field_written
  refine L2.FunD.ok F sc_Field___init__ (fun vs H Q E h => ?_) (fun cdv A outer s H0 vs Q E hr h => ?_)
  · obtain ⟨a_self, p_self, d_self, a_p, a_modulus, v_modulus, Hb, rfl, g0, nb, h_self, h_modulus, hTT, hm⟩ := h
    rfl
  · obtain ⟨a_self, p_self, d_self, a_p, a_modulus, v_modulus, Hb, rfl, g0, nb, h_self, h_modulus, hTT, hm⟩ := h
    have hm : wp (m_Field___init__ a_self a_p a_modulus) _ _ := hm
    unfold m_Field___init__ at hm
    refine ⟨_, (pss_cons (ps_expr (pe_callS G_check_making (hr.mono (by decide)) (by rfl) g_check_making k_check_making b_check_making (fun σ => passAt (takes_of rfl rfl rfl rfl) σ) (pa_cons (pv 1) (pa_cons (pv 2) pa_nil)))) (pss_cons (ps_fld (pv 0) (pv 1) rfl) (pss_cons (ps_fld (pv 0) (pe_callTy (tupleK (K := K) rfl) (by rfl) z_tuple (by decide +kernel) (pa_cons (pv 2) pa_nil)) rfl) (pss_cons (ps_fld (pv 0) (pe_op op_sub (pe_callB (lenK (K := K) rfl) (by rfl) z_len PySem.boot_len (pa_cons (pv 2) pa_nil)) pe_int) rfl) (pss_cons (ps_fld (pv 0) (pe_call G_power_within (hr.mono (by decide)) (by rfl) g_power_within k_power_within b_power_within .nil pass0 (pa_cons (pv 1) (pa_cons (pe_fldK (K := K) rfl (pv 0) rfl) (pa_cons (pe_glob (v := .int 400) (by rfl) gk_MOST_MEMBERS ⟨_, rfl⟩) pa_nil)))) rfl) (pss_cons (ps_fld (pv 0) (pe_callTy (tupleK (K := K) rfl) (by rfl) z_tuple (by decide +kernel) (pa_cons (pe_lc (own := [("number", 5)]) (g := gName 5) (tt := tYes) rfl sc_Field___init__.nd (pi_range1 (by rfl) z_range (pa_cons (pe_fldK (K := K) rfl (pv 0) rfl) pa_nil)) (blkOk_by (own := [("number", 5)]) (N := n_Field___init__) (sc := defScope s_Field___init__) (by decide +kernel)) (fun _ _ _ _ _ => pg_name (i := 5) sc_Field___init__.nd rfl (Or.inl rfl)) (fun _ _ _ _ _ => pts_nil) (fun _ _ _ _ _ => (pe_call G_digits (hr.mono (by decide)) (by rfl) g_digits k_digits b_digits .nil pass0 (pa_cons (pv 5) (pa_cons (pv 1) (pa_cons (pe_fldK (K := K) rfl (pv 0) rfl) pa_nil)))))) pa_nil)) rfl) (pss_cons (ps_fld (pv 0) (pe_callS G_primitive_powers (hr.mono (by decide)) (by rfl) g_primitive_powers k_primitive_powers b_primitive_powers (fun σ => passAt (takes_of rfl rfl rfl rfl) σ) (pa_cons (pe_fldK (K := K) rfl (pv 0) rfl) (pa_cons (pv 1) (pa_cons (pe_fldK (K := K) rfl (pv 0) rfl) pa_nil)))) rfl) (pss_cons (ps_fld (pv 0) (pe_frz (pe_dcA (own := [("k", 3), ("a", 4)]) (g := (gTup K 2 (gCons (gName 3) (gCons (gName 4) gNil)))) (K := K) rfl (u1 hr.units) rfl sc_Field___init__.nd (pi_enumT (K := K) (by rfl) z_enumerate (pa_cons (pe_fldK (K := K) rfl (pv 0) rfl) pa_nil) rfl) (blkOk_by (own := [("k", 3), ("a", 4)]) (N := n_Field___init__) (sc := defScope s_Field___init__) (by decide +kernel)) (fun _ _ _ _ _ => pg_tup rfl (pgs_cons (pg_name (i := 3) sc_Field___init__.nd rfl (Or.inl rfl) (Or.inr rfl)) (pgs_cons (pg_name (i := 4) sc_Field___init__.nd rfl (Or.inl rfl) (Or.inr rfl)) pgs_nil))) (fun _ _ _ _ _ => (pv 4)) (fun _ _ _ _ _ => (pv 3)))) rfl) (pss_one (ps_fld (pv 0) (pe_frz (pe_dc (own := [("a", 4)]) (g := gName 4) (tt := tYes) rfl sc_Field___init__.nd (pi_tupK (K := K) (pe_fldK (K := K) rfl (pv 0) rfl) rfl) (blkOk_by (own := [("a", 4)]) (N := n_Field___init__) (sc := defScope s_Field___init__) (by decide +kernel)) (fun _ _ _ _ _ => pg_name (i := 4) sc_Field___init__.nd rfl (Or.inl rfl)) (fun _ _ _ _ _ => pts_nil) (fun _ _ _ _ _ => (pe_methS (pv 0) kl_Field M_Field_written G_Field_written (hr.mono (by decide)) b_Field_written passN (pa_cons (pv 4) pa_nil))) (fun _ _ _ _ _ => (pv 4)))) rfl)))))))))), ?_⟩
    refine rd_seq (rd_drop (rd_callS (rd_cons (rd_var rfl (rd_cons (rd_var rfl (rd_nil ⟨_, _, _, rfl, h_modulus, (hTT.gr g0), wp_imp (wp_bind hm) (fun t1 hm H2 g3 => ?_) (fun _ e => XEr.sub g0 e)⟩)))))))
    have h_self := ins_g0 g3 h_self
    have h_modulus := Imm.mono g3 h_modulus
    have g0 := g0.of0' g3
    refine rd_nx ?_
    refine rd_seq (rd_sfld (rd_var rfl (rd_var rfl (set_fld (y := (.int a_p)) h_self (show (5 : Nat) ≠ 0 by decide) kl_Field na_Field_p (by show 0 < 1000; decide) fun H4 f5 h6 => ?_))))
    have h_modulus := Imm.im f5.im h_modulus
    have g0 := Gr.fz g0 nb f5
    have h_self : H4 p_self = some (.ins c_Field d_self [("p", (.int a_p))]) := h6
    refine rd_nx ?_
    refine rd_seq (rd_sfld (rd_cb (rd_cons (rd_var rfl (rd_nil (tup_of_T h_modulus (rd_var rfl (set_fld (y := v_modulus) h_self (show (5 : Nat) ≠ 0 by decide) kl_Field na_Field_modulus (by show 1 < 1000; decide) fun H7 f8 h9 => ?_))))))))
    have h_modulus := Imm.im f8.im h_modulus
    have g0 := Gr.fz g0 nb f8
    have h_self : H7 p_self = some (.ins c_Field d_self [("p", (.int a_p)), ("modulus", v_modulus)]) := h9
    refine rd_nx ?_
    refine rd_seq (rd_sfld (rd_op (rd_cb (rd_cons (rd_var rfl (rd_nil (len_T h_modulus (rd_c (rd_rI0 (rd_var rfl (set_fld (y := (.int (((a_modulus).length : Int) - (1 : Int)))) h_self (show (5 : Nat) ≠ 0 by decide) kl_Field na_Field_n (by show 2 < 1000; decide) fun H10 f11 h12 => ?_)))))))))))
    have h_modulus := Imm.im f11.im h_modulus
    have g0 := Gr.fz g0 nb f11
    have h_self : H10 p_self = some (.ins c_Field d_self [("p", (.int a_p)), ("modulus", v_modulus), ("n", (.int (((a_modulus).length : Int) - (1 : Int))))]) := h12
    refine rd_nx ?_
    refine rd_seq (rd_sfld (rd_call (rd_cons (rd_var rfl (rd_cons (rd_fld (rd_var rfl (get_fld h_self kl_Field na_Field_n rfl (rd_cons (rd_c (rd_nil ⟨_, _, _, rfl, wp_imp (wp_bindN hm) (fun t13 hm v16 H14 g15 h17 => ?_) (fun _ e => e)⟩)))))))))))
    have h_self := ins_g0 g15 h_self
    have h_modulus := Imm.mono g15 h_modulus
    have g0 := g0.of0' g15
    obtain ⟨t18, h19, hm⟩ := unO_I h17 (wp_bind hm)
    have h19 : v16 = .int t18 := h19
    rw [h19]
    refine rd_var rfl (set_fld (y := (.int t18)) h_self (show (5 : Nat) ≠ 0 by decide) kl_Field na_Field_q (by show 3 < 1000; decide) fun H20 f21 h22 => ?_)
    have h_modulus := Imm.im f21.im h_modulus
    have g0 := Gr.fz g0 nb f21
    have h_self : H20 p_self = some (.ins c_Field d_self [("p", (.int a_p)), ("modulus", v_modulus), ("n", (.int (((a_modulus).length : Int) - (1 : Int)))), ("q", (.int t18))]) := h22
    refine rd_nx ?_
    obtain ⟨c23, hm⟩ := wp_grd hm
    refine rd_seq (rd_sfld (rd_cb (rd_cons (rd_lc (rd_r1 (rd_cons (rd_fld (rd_var rfl (get_fld h_self kl_Field na_Field_q rfl (rd_nil ⟨_, rfl, c23.1, c23.2, fun p24 n25 => ?_⟩))))))))))
    have nw26 := Gr.free g0 n25
    refine lc_rng (lo := 0) (n := (t18).toNat) (fun (s : List (List Int)) (H : Hp) => Gr [] H20 H ∧ Ls (rT K rI) H p24 s) (wp_bind hm) ⟨Gr.new n25, ⟨[], upd_same, .nil⟩⟩ (fun x31 s30 H34 N35 hr36 hm => ?_) (fun s37 H38 hr39 hm => ?_)
    · unfold m_Field___init___b1 at hm
      obtain ⟨g40, h41⟩ := hr36
      have h_self := ins_gA g40 nin0 h_self
      have h_modulus := Imm.mono g40 h_modulus
      have g0 := Gr.of0' g0 g40
      have gl42 := g40
      refine rd_gn ⟨rfl, rd_yes (iteT (rd_call (rd_cons (rd_var rfl (rd_cons (rd_var rfl (rd_cons (rd_fld (rd_var rfl (get_fld h_self kl_Field na_Field_n rfl (rd_nil ⟨_, _, _, rfl, wp_imp (wp_bindN hm) (fun t43 hm v46 H44 g45 h47 => ?_) (fun _ e => e)⟩)))))))))))⟩
      have h_self := ins_g0 g45 h_self
      have h_modulus := Imm.mono g45 h_modulus
      have h41 := Ls.g0 g45 h41
      have g0 := g0.of0' g45
      have gl42 := gl42.of0' g45
      obtain ⟨c48, hm⟩ := wp_grd hm
      refine lc_add h41 h47 c48 fun H49 g50 h51 => ?_
      have h_self := ins_gA g50 (nin1 (ins_ne h_self h41) nin0) h_self
      have h_modulus := Imm.mono g50 h_modulus
      have g0 := Gr.loc g0 nw26 g50
      have gl42 := Gr.loc gl42 n25 g50
      exact hm _ ⟨gl42, h51⟩
    obtain ⟨g52, h53⟩ := hr39
    have h_self := ins_gA g52 nin0 h_self
    have h_modulus := Imm.mono g52 h_modulus
    have g0 := Gr.of0' g0 g52
    refine rd_nil (tup_of_L (K := K) (Ls.q h53) fun v54 H55 g56 h57 => ?_)
    have h_self := ins_g0 g56 h_self
    have h_modulus := Imm.mono g56 h_modulus
    have g0 := g0.of0' g56
    refine rd_var rfl (set_fld (y := v54) h_self (show (5 : Nat) ≠ 0 by decide) kl_Field na_Field__members (by show 4 < 1000; decide) fun H58 f59 h60 => ?_)
    have h_modulus := Imm.im f59.im h_modulus
    have h57 := Imm.im f59.im h57
    have g0 := Gr.fz g0 nb f59
    have h_self : H58 p_self = some (.ins c_Field d_self [("p", (.int a_p)), ("modulus", v_modulus), ("n", (.int (((a_modulus).length : Int) - (1 : Int)))), ("q", (.int t18)), ("_members", v54)]) := h60
    refine rd_nx ?_
    refine rd_seq (rd_sfld (rd_callS (rd_cons (rd_fld (rd_var rfl (get_fld h_self kl_Field na_Field__members rfl (rd_cons (rd_var rfl (rd_cons (rd_fld (rd_var rfl (get_fld h_self kl_Field na_Field_modulus rfl (rd_nil ⟨_, _, _, _, _, rfl, h57, h_modulus, wp_imp (wp_bind hm) (fun t61 hm v64 H62 g63 h65 => ?_) (fun _ e => XEr.sub g0 e)⟩)))))))))))))
    have h_self := ins_g0 g63 h_self
    have h_modulus := Imm.mono g63 h_modulus
    have h57 := Imm.mono g63 h57
    have g0 := g0.of0' g63
    refine rd_var rfl (set_fld (y := v64) h_self (show (5 : Nat) ≠ 0 by decide) kl_Field na_Field__powers (by show 5 < 1000; decide) fun H66 f67 h68 => ?_)
    have h_modulus := Imm.im f67.im h_modulus
    have h57 := Imm.im f67.im h57
    have h65 := Imm.im f67.im h65
    have g0 := Gr.fz g0 nb f67
    have h_self : H66 p_self = some (.ins c_Field d_self [("p", (.int a_p)), ("modulus", v_modulus), ("n", (.int (((a_modulus).length : Int) - (1 : Int)))), ("q", (.int t18)), ("_members", v54), ("_powers", v64)]) := h68
    refine rd_nx ?_
    obtain ⟨a69, ea73, vs70, hl71, hp72⟩ := id h65
    refine rd_seq (rd_sfld (rd_frzE (rd_dcD (rd_ienumT (rd_cons (rd_fld (rd_var rfl (get_fld h_self kl_Field na_Field__powers rfl (rd_nil (enum_t ea73 hl71 (fun p74 n75 => ?_)))))))))))
    have nw76 := Gr.free g0 n75
    refine dc_R (o0 := (DA p74 [])) (put := (dputA K)) (r := (rP K rI (rT K rI))) (H0 := H66) (H1 := H66) (wk_enumT hp72) (fun (s : (List ((List Int) × Int))) (H : Hp) => Gr [] H66 H ∧ LsD K rI H p74 s) (wp_bind hm) ⟨Gr.new n75, LsD.new⟩ (fun _ _ hr => by obtain ⟨g, _⟩ := hr; exact ⟨g.tup hl71, _, g⟩) (fun x79 v80 s78 H82 H83 N85 hr86 hg84 hx81 hm => ?_) (fun s87 H88 hr89 hm => ?_)
    · unfold m_Field___init___b2 at hm
      obtain ⟨g90, h91⟩ := hr86
      have h_self := ins_g0 g90 h_self
      have h_modulus := Imm.mono g90 h_modulus
      have h57 := Imm.mono g90 h57
      have h65 := Imm.mono g90 h65
      have g0 := Gr.of0' g0 g90
      have gl92 := g90
      have h_self := ins_g0 hg84 h_self
      have h_modulus := Imm.mono hg84 h_modulus
      have h57 := Imm.mono hg84 h57
      have h65 := Imm.mono hg84 h65
      have h91 := LsD.g0 hg84 h91
      have g0 := g0.of0' hg84
      have gl92 := gl92.of0' hg84
      obtain ⟨a93, x94, x95, ea99, h96, h97, h98⟩ := id hx81
      obtain rfl := h97
      obtain ⟨c100, hm⟩ := wp_grd hm
      refine rd_gtE ea99 h96 rfl (rd_gc (rd_gn (rd_gc (rd_gn (rd_g0 ⟨rfl, rd_var rfl (rd_var rfl (dput_D h91 h98 rfl c100 fun H101 g102 h103 => ?_))⟩)))))
      have h_self := ins_gA g102 (nin1 (ins_neD h_self h91) nin0) h_self
      have h_modulus := Imm.mono g102 h_modulus
      have h57 := Imm.mono g102 h57
      have h65 := Imm.mono g102 h65
      have h98 := Imm.mono g102 h98
      have g0 := Gr.loc g0 nw76 g102
      have gl92 := Gr.loc gl92 n75 g102
      exact hm _ ⟨gl92, h103⟩
    obtain ⟨g104, h105⟩ := hr89
    have h_self := ins_g0 g104 h_self
    have h_modulus := Imm.mono g104 h_modulus
    have h57 := Imm.mono g104 h57
    have h65 := Imm.mono g104 h65
    have g0 := Gr.of0' g0 g104
    refine fz_D h105 fun H106 f107 h108 => ?_
    have h_self := ins_fz f107 (ins_neD h_self h105) h_self
    have h_modulus := Imm.im f107.im h_modulus
    have h57 := Imm.im f107.im h57
    have h65 := Imm.im f107.im h65
    have g0 := Gr.fz g0 nw76 f107
    refine rd_var rfl (set_fld (y := (.ref p74)) h_self (show (5 : Nat) ≠ 0 by decide) kl_Field na_Field__logarithms (by show 6 < 1000; decide) fun H109 f110 h111 => ?_)
    have h_modulus := Imm.im f110.im h_modulus
    have h57 := Imm.im f110.im h57
    have h65 := Imm.im f110.im h65
    have h108 := Imm.im f110.im h108
    have g0 := Gr.fz g0 nb f110
    have h_self : H109 p_self = some (.ins c_Field d_self [("p", (.int a_p)), ("modulus", v_modulus), ("n", (.int (((a_modulus).length : Int) - (1 : Int)))), ("q", (.int t18)), ("_members", v54), ("_powers", v64), ("_logarithms", (.ref p74))]) := h111
    refine rd_nx ?_
    obtain ⟨a115, ea116, vs112, hl113, hp114⟩ := id h57
    refine rd_sfld (rd_frzE (rd_dcS (rd_it (rd_fld (rd_var rfl (get_fld h_self kl_Field na_Field__members rfl ⟨_, ea116, ⟨_, hl113⟩, fun p117 n118 => ?_⟩))))))
    have nw119 := Gr.free g0 n118
    refine dc_R (o0 := (.dK [])) (put := dputS) (r := (rT K rI)) (H0 := H109) (H1 := H109) (wk_tup hp114) (fun (s : (List (PySem.Str × (List Int)))) (H : Hp) => Gr [] H109 H ∧ LsS (rT K rI) H p117 s) (wp_bind hm) ⟨Gr.new n118, LsS.new⟩ (fun _ _ hr => by obtain ⟨g, _⟩ := hr; exact ⟨g.tup hl113, _, g⟩) (fun x122 v123 s121 H125 H126 N128 hr129 hg127 hx124 hm => ?_) (fun s130 H131 hr132 hm => ?_)
    · unfold m_Field___init___b3 at hm
      obtain ⟨g133, h134⟩ := hr129
      have h_self := ins_g0 g133 h_self
      have h_modulus := Imm.mono g133 h_modulus
      have h57 := Imm.mono g133 h57
      have h65 := Imm.mono g133 h65
      have h108 := Imm.mono g133 h108
      have g0 := Gr.of0' g0 g133
      have gl135 := g133
      have h_self := ins_g0 hg127 h_self
      have h_modulus := Imm.mono hg127 h_modulus
      have h57 := Imm.mono hg127 h57
      have h65 := Imm.mono hg127 h65
      have h108 := Imm.mono hg127 h108
      have h134 := LsS.g0 hg127 h134
      have g0 := g0.of0' hg127
      have gl135 := gl135.of0' hg127
      refine rd_gn ⟨rfl, rd_meth (rd_var rfl (on_meth h_self rfl (rd_cons (rd_var rfl (rd_nil ⟨_, _, _, _, _, _, _, _, _, rfl, h_self, h_modulus, h57, h65, h108, hx124, wp_imp (wp_bindN hm) (fun t136 hm H137 g138 => ?_) (fun _ e => e)⟩)))))⟩
      have h_self := ins_g0 g138 h_self
      have h_modulus := Imm.mono g138 h_modulus
      have h57 := Imm.mono g138 h57
      have h65 := Imm.mono g138 h65
      have h108 := Imm.mono g138 h108
      have hx124 := Imm.mono g138 hx124
      have h134 := LsS.g0 g138 h134
      have g0 := g0.of0' g138
      have gl135 := gl135.of0' g138
      obtain ⟨c139, hm⟩ := wp_grd hm
      refine rd_var rfl (dput_S h134 hx124 c139 fun H140 g141 h142 => ?_)
      have h_self := ins_gA g141 (nin1 (ins_neS h_self h134) nin0) h_self
      have h_modulus := Imm.mono g141 h_modulus
      have h57 := Imm.mono g141 h57
      have h65 := Imm.mono g141 h65
      have h108 := Imm.mono g141 h108
      have hx124 := Imm.mono g141 hx124
      have g0 := Gr.loc g0 nw119 g141
      have gl135 := Gr.loc gl135 n118 g141
      exact hm _ ⟨gl135, h142⟩
    obtain ⟨g143, h144⟩ := hr132
    have h_self := ins_g0 g143 h_self
    have h_modulus := Imm.mono g143 h_modulus
    have h57 := Imm.mono g143 h57
    have h65 := Imm.mono g143 h65
    have h108 := Imm.mono g143 h108
    have g0 := Gr.of0' g0 g143
    refine fz_S h144 fun H145 f146 h147 => ?_
    have h_self := ins_fz f146 (ins_neS h_self h144) h_self
    have h_modulus := Imm.im f146.im h_modulus
    have h57 := Imm.im f146.im h57
    have h65 := Imm.im f146.im h65
    have h108 := Imm.im f146.im h108
    have g0 := Gr.fz g0 nw119 f146
    refine rd_var rfl (set_fld (y := (.ref p117)) h_self (show (5 : Nat) ≠ 0 by decide) kl_Field na_Field__texts (by show 7 < 1000; decide) fun H148 f149 h150 => ?_)
    have h_modulus := Imm.im f149.im h_modulus
    have h57 := Imm.im f149.im h57
    have h65 := Imm.im f149.im h65
    have h108 := Imm.im f149.im h108
    have h147 := Imm.im f149.im h147
    have g0 := Gr.fz g0 nb f149
    have h_self : H148 p_self = some (.ins c_Field d_self [("p", (.int a_p)), ("modulus", v_modulus), ("n", (.int (((a_modulus).length : Int) - (1 : Int)))), ("q", (.int t18)), ("_members", v54), ("_powers", v64), ("_logarithms", (.ref p74)), ("_texts", (.ref p117))]) := h150
    exact hm _ g0 ⟨_, _, _, _, _, _, _, _, _, _, rfl, h_self, rfl, h_modulus, rfl, rfl, h57, h65, h108, h147⟩

abbrev s__law_member : Stmt := topS 58
abbrev n__law_member : List Str := ["state", "p", "n", "k"]
theorem sc__law_member : FnScope n__law_member ["state", "p", "n"] (defScope s__law_member) := ⟨rfl, rfl, rfl, by decide +kernel, rfl, by decide +kernel, by decide +kernel⟩
def m__law_member_b1 (a_p : Int) (s9 : List Int × List Int) (x10 : Int) : R (List Int × List Int) :=
  (m__law_take s9.2 a_p).bind fun t23 => grd (lenLt s9.1) <| R.ok ((s9.1 ++ [t23.1]), t23.2)
def m__law_member (a_state : (List Int)) (a_p : Int) (a_n : Int) : R ((List Int) × (List Int)) :=
  grd (rgOk a_n) <| (foldR (m__law_member_b1 a_p) ([], a_state) (rng 0 (a_n).toNat)).bind fun s16 => R.ok (s16.1, s16.2)
def sp__law_member (K : PySem.W.Frag) : Sp := fun vs H Q _ => ∃ (a_state : (List Int)) (p_state : Addr) (a_p : Int) (a_n : Int), vs = [.ref p_state, (.int a_p), (.int a_n)] ∧ Ls rI H p_state a_state ∧ wp (m__law_member a_state a_p a_n) (fun r => ∀ v H', Gr [p_state] H H' → (rT K rI) H' r.1 v → Ls rI H' p_state r.2 → Q v H') (fun _ => False)
theorem ok__law_member {P : Program} {w : World} {K : PySem.W.Frag} {mg : Str → Option Value} {base : Heap} {f : Addr} {fd : FuncData} (F : Fun K "_law_member" "_law_member" s__law_member f fd) (z_range : mg "range" = none) (z_tuple : mg "tuple" = none) (c__law_take : Cal P w K mg base CX0 1 "_law_take" ["state", "m"] (sp__law_take K)) : FnOk P w K mg base CX0 2 f fd ["state", "p", "n"] (sp__law_member K) := by
  obtain ⟨f__law_take, fd__law_take, G__law_take, g__law_take, k__law_take, b__law_take⟩ := c__law_take
  refine F.ok sc__law_member (fun vs H Q E h => ?_) (fun cdv A outer s H0 vs Q E hr h => ?_)
  · obtain ⟨a_state, p_state, a_p, a_n, rfl, h_state, hm⟩ := h
    rfl
  · obtain ⟨a_state, p_state, a_p, a_n, rfl, h_state, hm⟩ := h
    have hm : wp (m__law_member a_state a_p a_n) _ _ := hm
    unfold m__law_member at hm
    refine ⟨_, (pss_one (ps_ret (pe_callTy (tupleK (K := K) rfl) (by rfl) z_tuple (by decide +kernel) (pa_cons (pe_lc (own := [("k", 3)]) (g := gName 3) (tt := tYes) rfl sc__law_member.nd (pi_range1 (by rfl) z_range (pa_cons (pv 2) pa_nil)) (blkOk_by (own := [("k", 3)]) (N := n__law_member) (sc := defScope s__law_member) (by decide +kernel)) (fun _ _ _ _ _ => pg_name (i := 3) sc__law_member.nd rfl (Or.inl rfl)) (fun _ _ _ _ _ => pts_nil) (fun _ _ _ _ _ => (pe_call G__law_take (hr.mono (by decide)) (by rfl) g__law_take k__law_take b__law_take .nil pass0 (pa_cons (pv 0) (pa_cons (pv 1) pa_nil))))) pa_nil)))), ?_⟩
    have g0 := Gr.refl (A := [p_state]) H0
    obtain ⟨c1, hm⟩ := wp_grd hm
    refine rd_ret (rd_cb (rd_cons (rd_lc (rd_r1 (rd_cons (rd_var rfl (rd_nil ⟨_, rfl, c1.1, c1.2, fun p2 n3 => ?_⟩)))))))
    have ne4 : p_state ≠ p2 := Ls.ne h_state n3
    have nw5 := Gr.free g0 n3
    refine lc_rng (lo := 0) (n := (a_n).toNat) (fun (s : List Int × List Int) (H : Hp) => Gr [p_state] H0 H ∧ Ls rI H p2 s.1 ∧ Ls rI H p_state s.2) (wp_bind hm) ⟨Gr.new n3, ⟨[], upd_same, .nil⟩, Ls.g0 (Gr.new (A := []) n3) h_state⟩ (fun x10 s9 H13 N14 hr15 hm => ?_) (fun s16 H17 hr18 hm => ?_)
    · unfold m__law_member_b1 at hm
      obtain ⟨g19, h20, h21⟩ := hr15
      have g0 := Gr.many g0 (all1 ((.inl (by simp))) all0) g19
      have gl22 := g19
      refine rd_gn ⟨rfl, rd_yes (iteT (rd_call (rd_cons (rd_var rfl (rd_cons (rd_var rfl (rd_nil ⟨_, _, _, rfl, h21, wp_imp (wp_bind hm) (fun t23 hm H24 g25 h26 => ?_) (fun _ e => e)⟩)))))))⟩
      have h20 := Ls.g1 g25 (Ne.symm ne4) h20
      have g0 := Gr.at1 g0 (by simp) g25
      have gl22 := Gr.at1 gl22 (by simp) g25
      obtain ⟨c27, hm⟩ := wp_grd hm
      refine lc_add h20 rfl c27 fun H28 g29 h30 => ?_
      have h26 := Ls.g1 g29 ne4 h26
      have g0 := Gr.loc g0 nw5 g29
      have gl22 := Gr.loc gl22 n3 g29
      exact hm _ ⟨gl22, h30, h26⟩
    obtain ⟨g31, h32, h33⟩ := hr18
    have g0 := Gr.many g0 (all1 ((.inl (by simp))) all0) g31
    refine rd_nil (tup_of_L (K := K) (Ls.q h32) fun v34 H35 g36 h37 => ?_)
    have h33 := Ls.g0 g36 h33
    have g0 := g0.of0' g36
    exact hm _ _ g0 h37 h33

abbrev s__law_zero : Stmt := topS 57
abbrev n__law_zero : List Str := ["n", "k"]
theorem sc__law_zero : FnScope n__law_zero ["n"] (defScope s__law_zero) := ⟨rfl, rfl, rfl, by decide +kernel, rfl, by decide +kernel, by decide +kernel⟩
def m__law_zero_b1 (s8 : List Int) (x9 : Int) : R (List Int) :=
  grd (lenLt s8) <| R.ok (s8 ++ [(0 : Int)])
def m__law_zero (a_n : Int) : R (List Int) :=
  grd (rgOk a_n) <| (foldR m__law_zero_b1 ([]) (rng 0 (a_n).toNat)).bind fun s15 => R.ok s15
def sp__law_zero (K : PySem.W.Frag) : Sp := fun vs H Q _ => ∃ (a_n : Int), vs = [(.int a_n)] ∧ wp (m__law_zero a_n) (fun r => ∀ v H', Gr [] H H' → (rT K rI) H' r v → Q v H') (fun _ => False)
theorem ok__law_zero {P : Program} {w : World} {K : PySem.W.Frag} {mg : Str → Option Value} {base : Heap} {f : Addr} {fd : FuncData} (F : Fun K "_law_zero" "_law_zero" s__law_zero f fd) (z_range : mg "range" = none) (z_tuple : mg "tuple" = none) : FnOk P w K mg base CX0 1 f fd ["n"] (sp__law_zero K) := by
  refine F.ok sc__law_zero (fun vs H Q E h => ?_) (fun cdv A outer s H0 vs Q E hr h => ?_)
  · obtain ⟨a_n, rfl, hm⟩ := h
    rfl
  · obtain ⟨a_n, rfl, hm⟩ := h
    have hm : wp (m__law_zero a_n) _ _ := hm
    unfold m__law_zero at hm
    refine ⟨_, (pss_one (ps_ret (pe_callTy (tupleK (K := K) rfl) (by rfl) z_tuple (by decide +kernel) (pa_cons (pe_lc (own := [("k", 1)]) (g := gName 1) (tt := tYes) rfl sc__law_zero.nd (pi_range1 (by rfl) z_range (pa_cons (pv 0) pa_nil)) (blkOk_by (own := [("k", 1)]) (N := n__law_zero) (sc := defScope s__law_zero) (by decide +kernel)) (fun _ _ _ _ _ => pg_name (i := 1) sc__law_zero.nd rfl (Or.inl rfl)) (fun _ _ _ _ _ => pts_nil) (fun _ _ _ _ _ => pe_int)) pa_nil)))), ?_⟩
    have g0 := Gr.refl (A := []) H0
    obtain ⟨c1, hm⟩ := wp_grd hm
    refine rd_ret (rd_cb (rd_cons (rd_lc (rd_r1 (rd_cons (rd_var rfl (rd_nil ⟨_, rfl, c1.1, c1.2, fun p2 n3 => ?_⟩)))))))
    have nw4 := Gr.free g0 n3
    refine lc_rng (lo := 0) (n := (a_n).toNat) (fun (s : List Int) (H : Hp) => Gr [] H0 H ∧ Ls rI H p2 s) (wp_bind hm) ⟨Gr.new n3, ⟨[], upd_same, .nil⟩⟩ (fun x9 s8 H12 N13 hr14 hm => ?_) (fun s15 H16 hr17 hm => ?_)
    · unfold m__law_zero_b1 at hm
      obtain ⟨g18, h19⟩ := hr14
      have g0 := Gr.of0' g0 g18
      have gl20 := g18
      obtain ⟨c21, hm⟩ := wp_grd hm
      refine rd_gn ⟨rfl, rd_yes (iteT (rd_c (lc_add h19 rfl c21 fun H22 g23 h24 => ?_)))⟩
      have g0 := Gr.loc g0 nw4 g23
      have gl20 := Gr.loc gl20 n3 g23
      exact hm _ ⟨gl20, h24⟩
    obtain ⟨g25, h26⟩ := hr17
    have g0 := Gr.of0' g0 g25
    refine rd_nil (tup_of_L (K := K) (Ls.q h26) fun v27 H28 g29 h30 => ?_)
    have g0 := g0.of0' g29
    exact hm _ _ g0 h30

abbrev s__law_one : Stmt := topS 56
abbrev n__law_one : List Str := ["n", "k"]
theorem sc__law_one : FnScope n__law_one ["n"] (defScope s__law_one) := ⟨rfl, rfl, rfl, by decide +kernel, rfl, by decide +kernel, by decide +kernel⟩
def m__law_one_b1 (s12 : List Int) (x13 : Int) : R (List Int) :=
  grd (lenLt s12) <| R.ok (s12 ++ [(0 : Int)])
def m__law_one (a_n : Int) : R (List Int) :=
  grd (rgOk (a_n - (1 : Int))) <| (foldR m__law_one_b1 ([]) (rng 0 ((a_n - (1 : Int))).toNat)).bind fun s19 => grd (lenOk ([(1 : Int)] ++ s19)) <| R.ok ([(1 : Int)] ++ s19)
def sp__law_one (K : PySem.W.Frag) : Sp := fun vs H Q _ => ∃ (a_n : Int), vs = [(.int a_n)] ∧ wp (m__law_one a_n) (fun r => ∀ v H', Gr [] H H' → (rT K rI) H' r v → Q v H') (fun _ => False)
theorem ok__law_one {P : Program} {w : World} {K : PySem.W.Frag} {mg : Str → Option Value} {base : Heap} {f : Addr} {fd : FuncData} (F : Fun K "_law_one" "_law_one" s__law_one f fd) (z_range : mg "range" = none) (z_tuple : mg "tuple" = none) : FnOk P w K mg base CX0 1 f fd ["n"] (sp__law_one K) := by
  refine F.ok sc__law_one (fun vs H Q E h => ?_) (fun cdv A outer s H0 vs Q E hr h => ?_)
  · obtain ⟨a_n, rfl, hm⟩ := h
    rfl
  · obtain ⟨a_n, rfl, hm⟩ := h
    have hm : wp (m__law_one a_n) _ _ := hm
    unfold m__law_one at hm
    refine ⟨_, (pss_one (ps_ret (pe_op (catAK (K := K) rfl) (pe_tup (pa_cons pe_int pa_nil)) (pe_callTy (tupleK (K := K) rfl) (by rfl) z_tuple (by decide +kernel) (pa_cons (pe_lc (own := [("k", 1)]) (g := gName 1) (tt := tYes) rfl sc__law_one.nd (pi_range1 (by rfl) z_range (pa_cons (pe_op op_sub (pv 0) pe_int) pa_nil)) (blkOk_by (own := [("k", 1)]) (N := n__law_one) (sc := defScope s__law_one) (by decide +kernel)) (fun _ _ _ _ _ => pg_name (i := 1) sc__law_one.nd rfl (Or.inl rfl)) (fun _ _ _ _ _ => pts_nil) (fun _ _ _ _ _ => pe_int)) pa_nil))))), ?_⟩
    have g0 := Gr.refl (A := []) H0
    refine rd_ret (rd_op (rd_tup (rd_cons (rd_c (rd_nil (mk_T (K := K) (r := rI) (xs := [(1 : Int)]) (.cons rfl .nil) (by show 1 ≤ sizeLine; decide) fun v1 H2 g3 h4 => ?_))))))
    have g0 := g0.of0' g3
    obtain ⟨c5, hm⟩ := wp_grd hm
    refine rd_cb (rd_cons (rd_lc (rd_r1 (rd_cons (rd_op (rd_var rfl (rd_c (rd_rI0 (rd_nil ⟨_, rfl, c5.1, c5.2, fun p6 n7 => ?_⟩)))))))))
    have nw8 := Gr.free g0 n7
    refine lc_rng (lo := 0) (n := ((a_n - (1 : Int))).toNat) (fun (s : List Int) (H : Hp) => Gr [] H2 H ∧ Ls rI H p6 s) (wp_bind hm) ⟨Gr.new n7, ⟨[], upd_same, .nil⟩⟩ (fun x13 s12 H16 N17 hr18 hm => ?_) (fun s19 H20 hr21 hm => ?_)
    · unfold m__law_one_b1 at hm
      obtain ⟨g22, h23⟩ := hr18
      have h4 := Imm.mono g22 h4
      have g0 := Gr.of0' g0 g22
      have gl24 := g22
      obtain ⟨c25, hm⟩ := wp_grd hm
      refine rd_gn ⟨rfl, rd_yes (iteT (rd_c (lc_add h23 rfl c25 fun H26 g27 h28 => ?_)))⟩
      have h4 := Imm.mono g27 h4
      have g0 := Gr.loc g0 nw8 g27
      have gl24 := Gr.loc gl24 n7 g27
      exact hm _ ⟨gl24, h28⟩
    obtain ⟨g29, h30⟩ := hr21
    have h4 := Imm.mono g29 h4
    have g0 := Gr.of0' g0 g29
    refine rd_nil (tup_of_L (K := K) (Ls.q h30) fun v31 H32 g33 h34 => ?_)
    have h4 := Imm.mono g33 h4
    have g0 := g0.of0' g33
    obtain ⟨c35, hm⟩ := wp_grd hm
    refine cat_TA h4 h34 c35 fun v36 H37 g38 h39 => ?_
    have g0 := g0.of0' g38
    exact hm _ _ g0 h39

abbrev s__law_reduce : Stmt := topS 51
abbrev n__law_reduce : List Str := ["row", "p", "modulus", "n", "at", "top", "k", "x"]
theorem sc__law_reduce : FnScope n__law_reduce ["row", "p", "modulus"] (defScope s__law_reduce) := ⟨rfl, rfl, rfl, by decide +kernel, rfl, by decide +kernel, by decide +kernel⟩
def m__law_reduce_b1 (a_p : Int) (s11 : List Int) (x12 : Int) : R (List Int) :=
  grd (0 < a_p) <| grd (lenLt s11) <| R.ok (s11 ++ [(x12 % a_p)])
def m__law_reduce_b2 (a_p : Int) (a_modulus : (List Int)) (x47 : Int) (t58 : Int) (s69 : (List Int)) (x75 : Int) : R ((List Int)) :=
  (getL s69 ((x47 - (((a_modulus).length : Int) - (1 : Int))) + x75)).bind fun t82 => (getL a_modulus x75).bind fun t85 => grd (CMul t58 t85) <| grd (0 < a_p) <| (setL s69 ((x47 - (((a_modulus).length : Int) - (1 : Int))) + x75) ((t82 - (t58 * t85)) % a_p)).bind fun t90 => R.ok t90
def m__law_reduce_b3 (a_p : Int) (a_modulus : (List Int)) (s41 : (List Int)) (x47 : Int) : R ((List Int)) :=
  (getL s41 x47).bind fun t58 => (grd (rgOk ((((a_modulus).length : Int) - (1 : Int)) + (1 : Int))) <| foldR (m__law_reduce_b2 a_p a_modulus x47 t58) s41 (rng 0 (((((a_modulus).length : Int) - (1 : Int)) + (1 : Int))).toNat)).bind fun s64 => R.ok s64
def m__law_reduce_b4 (s118 : List Int) (x119 : Int) : R (List Int) :=
  grd (lenLt s118) <| R.ok (s118 ++ [(0 : Int)])
def m__law_reduce (a_row : (List Int)) (a_p : Int) (a_modulus : (List Int)) : R (List Int) :=
  (foldR (m__law_reduce_b1 a_p) ([]) a_row).bind fun s18 => (grd (rg3Ok (((s18).length : Int) - (1 : Int)) ((((a_modulus).length : Int) - (1 : Int)) - (1 : Int)) (-(1 : Int))) <| foldR (m__law_reduce_b3 a_p a_modulus) s18 (rngC (((s18).length : Int) - (1 : Int)) (-(1 : Int)) (rg3n (((s18).length : Int) - (1 : Int)) ((((a_modulus).length : Int) - (1 : Int)) - (1 : Int)) (-(1 : Int))))).bind fun s34 => grd (rgOk ((((a_modulus).length : Int) - (1 : Int)) - ((s34).length : Int))) <| (foldR m__law_reduce_b4 ([]) (rng 0 (((((a_modulus).length : Int) - (1 : Int)) - ((s34).length : Int))).toNat)).bind fun s125 => grd (lenOk ((cutT s34 none (some (((a_modulus).length : Int) - (1 : Int)))) ++ s125)) <| R.ok ((cutT s34 none (some (((a_modulus).length : Int) - (1 : Int)))) ++ s125)
def sp__law_reduce (K : PySem.W.Frag) : Sp := fun vs H Q _ => ∃ (a_row : (List Int)) (p_row : Addr) (a_p : Int) (a_modulus : (List Int)) (v_modulus : V), vs = [.ref p_row, (.int a_p), v_modulus] ∧ Ls rI H p_row a_row ∧ (rT K rI) H a_modulus v_modulus ∧ wp (m__law_reduce a_row a_p a_modulus) (fun r => ∀ v H', Gr [] H H' → (rT K rI) H' r v → Q v H') (fun _ => False)
theorem ok__law_reduce {P : Program} {w : World} {K : PySem.W.Frag} {mg : Str → Option Value} {base : Heap} {f : Addr} {fd : FuncData} (F : Fun K "_law_reduce" "_law_reduce" s__law_reduce f fd) (z_int : mg "int" = none) (z_len : mg "len" = none) (z_range : mg "range" = none) (z_tuple : mg "tuple" = none) : FnOk P w K mg base CX0 1 f fd ["row", "p", "modulus"] (sp__law_reduce K) := by
  refine F.ok sc__law_reduce (fun vs H Q E h => ?_) (fun cdv A outer s H0 vs Q E hr h => ?_)
  · obtain ⟨a_row, p_row, a_p, a_modulus, v_modulus, rfl, h_row, h_modulus, hm⟩ := h
    rfl
  · obtain ⟨a_row, p_row, a_p, a_modulus, v_modulus, rfl, h_row, h_modulus, hm⟩ := h
    have hm : wp (m__law_reduce a_row a_p a_modulus) _ _ := hm
    unfold m__law_reduce at hm
    refine ⟨_, (pss_cons (ps_setLc (i := 0) (own := [("x", 7)]) (g := gName 7) (tt := tYes) rfl sc__law_reduce.nd rfl rfl (sw_true rfl rfl rfl (by decide +kernel)) (pi_listK (K := K) (pv 0) rfl) (blkOk_by (own := [("x", 7)]) (N := n__law_reduce) (sc := defScope s__law_reduce) (by decide +kernel)) (fun _ _ _ _ _ => pg_name (i := 7) sc__law_reduce.nd rfl (Or.inl rfl)) (fun _ _ _ _ _ => pts_nil) (fun _ _ _ _ _ => (pe_op op_mod (pe_callTy call_int1 (by rfl) z_int (by decide +kernel) (pa_cons (pv 7) pa_nil)) (pv 1)))) (pss_cons (ps_set (i := 3) sc__law_reduce.nd rfl (Or.inl rfl) (pe_op op_sub (pe_callB (lenK (K := K) rfl) (by rfl) z_len PySem.boot_len (pa_cons (pv 2) pa_nil)) pe_int)) (pss_cons (ps_for PassesOwn.never rfl (pi_range3 (by rfl) z_range (pa_cons (pe_op op_sub (pe_callB (lenK (K := K) rfl) (by rfl) z_len PySem.boot_len (pa_cons (pv 0) pa_nil)) pe_int) (pa_cons (pe_op op_sub (pv 3) pe_int) (pa_cons (pe_un un_neg pe_int) pa_nil)))) (pg_name (i := 4) sc__law_reduce.nd rfl (Or.inl rfl)) (pss_cons (ps_set (i := 5) sc__law_reduce.nd rfl (Or.inl rfl) (pe_ix (ix_listK (K := K) rfl) (pv 0) (pv 4) (fun _ _ => rfl))) (pss_one (ps_for PassesOwn.never rfl (pi_range1 (by rfl) z_range (pa_cons (pe_op op_add (pv 3) pe_int) pa_nil)) (pg_name (i := 6) sc__law_reduce.nd rfl (Or.inl rfl)) (pss_one (ps_asg (pe_op op_mod (pe_callTy call_int1 (by rfl) z_int (by decide +kernel) (pa_cons (pe_op op_sub (pe_ix (ix_listK (K := K) rfl) (pv 0) (pe_op op_add (pe_op op_sub (pv 4) (pv 3)) (pv 6)) (fun _ _ => rfl)) (pe_op op_mul (pv 5) (pe_ix (ix_tupK (K := K) rfl) (pv 2) (pv 6) (fun _ _ => rfl)))) pa_nil)) (pv 1)) (pg_sub (pv 0) (pe_op op_add (pe_op op_sub (pv 4) (pv 3)) (pv 6)) set_list))))))) (pss_cons (ps_set (i := 0) sc__law_reduce.nd rfl (Or.inl rfl) (pe_op op_cat (pe_slice (sl_listK (K := K) rfl) (pv 0) po_none (po_some (pv 3))) (pe_lc (own := [("k", 6)]) (g := gName 6) (tt := tYes) rfl sc__law_reduce.nd (pi_range1 (by rfl) z_range (pa_cons (pe_op op_sub (pv 3) (pe_callB (lenK (K := K) rfl) (by rfl) z_len PySem.boot_len (pa_cons (pv 0) pa_nil))) pa_nil)) (blkOk_by (own := [("k", 6)]) (N := n__law_reduce) (sc := defScope s__law_reduce) (by decide +kernel)) (fun _ _ _ _ _ => pg_name (i := 6) sc__law_reduce.nd rfl (Or.inl rfl)) (fun _ _ _ _ _ => pts_nil) (fun _ _ _ _ _ => pe_int)))) (pss_one (ps_ret (pe_callTy (tupleK (K := K) rfl) (by rfl) z_tuple (by decide +kernel) (pa_cons (pv 0) pa_nil)))))))), ?_⟩
    have g0 := Gr.refl (A := []) H0
    obtain ⟨vs1, hl2, hp3⟩ := id (Ls.q h_row)
    refine rd_seq (rd_asg (rd_lc (rd_il (rd_var rfl ⟨_, rfl, ⟨_, hl2⟩, fun p4 n5 => ?_⟩))))
    have ne6 : p_row ≠ p4 := Ls.ne h_row n5
    have nw7 := Gr.free g0 n5
    refine lc_lst (r := rI) (H1 := H0) (fun (s : List Int) (H : Hp) => Gr [] H0 H ∧ Ls rI H p4 s) hp3 (wp_bind hm) ⟨Gr.new n5, ⟨[], upd_same, .nil⟩⟩ (fun _ _ hr => by obtain ⟨g, _⟩ := hr; exact g.lst nin0 hl2) (fun x12 v13 s11 H15 N16 hx14 hr17 hm => ?_) (fun s18 H19 hr20 hm => ?_)
    · unfold m__law_reduce_b1 at hm
      obtain ⟨g21, h22⟩ := hr17
      have h_row := Ls.gA g21 nin0 h_row
      have h_modulus := Imm.mono g21 h_modulus
      have g0 := Gr.of0' g0 g21
      have gl23 := g21
      obtain rfl := hx14
      obtain ⟨c24, hm⟩ := wp_grd hm
      obtain ⟨c25, hm⟩ := wp_grd hm
      refine rd_gn ⟨rfl, rd_yes (iteT (rd_op (rd_cb (rd_cons (rd_var rfl (rd_nil (rd_int (rd_var rfl (rd_rI c24 (lc_add h22 rfl c25 fun H26 g27 h28 => ?_))))))))))⟩
      have h_row := Ls.g1 g27 ne6 h_row
      have h_modulus := Imm.mono g27 h_modulus
      have g0 := Gr.loc g0 nw7 g27
      have gl23 := Gr.loc gl23 n5 g27
      exact hm _ ⟨gl23, h28⟩
    obtain ⟨g29, h30⟩ := hr20
    have h_row := Ls.gA g29 nin0 h_row
    have h_modulus := Imm.mono g29 h_modulus
    have g0 := Gr.of0' g0 g29
    refine rd_gn ?_
    refine rd_nx ?_
    refine rd_seq (rd_asg (rd_op (rd_cb (rd_cons (rd_var rfl (rd_nil (len_T h_modulus (rd_c (rd_rI0 (rd_gn ?_))))))))))
    refine rd_nx ?_
    refine seq_join (t := tFor _ _ _) (wp_bind hm) (fun (s : (List Int)) (σ : L2.St) (H : Hp) => ∃ (o38 : Option V) (o39 : Option V) (o40 : Option V), σ = [some (.ref p4), some (.int a_p), some v_modulus, some (.int (((a_modulus).length : Int) - (1 : Int))), o38, o39, o40, none] ∧ Gr [p4] H19 H ∧ Ls rI H p4 s) (fun N32 hN33 hm => ?_) (fun s34 σ H35 hr36 hm => ?_)
    · have gl37 := Gr.refl (A := [p4]) H19
      obtain ⟨c45, hm⟩ := wp_grd hm
      have gl46 := Gr.refl (A := [p4]) H19
      refine rd_for (rd_r3 (rd_cons (rd_op (rd_cb (rd_cons (rd_var rfl (rd_nil (len_L (Ls.q h30) (rd_c (rd_rI0 (rd_cons (rd_op (rd_var rfl (rd_c (rd_rI0 (rd_cons (rd_un (rd_c (rd_rU (rd_nil ⟨_, _, _, _, rfl, rg3_of c45, for_R (r := rI) (H0 := H19) wk_rngC (fun (s : (List Int)) (σ : L2.St) (H : Hp) => ∃ (o38 : Option V) (o39 : Option V) (o40 : Option V), σ = [some (.ref p4), some (.int a_p), some v_modulus, some (.int (((a_modulus).length : Int) - (1 : Int))), o38, o39, o40, none] ∧ Gr [p4] H19 H ∧ Ls rI H p4 s) (by exact wp_N hm (fun s σ' H' hr hz => hN33 s σ' H' hr hz)) ⟨_, _, _, rfl, gl46, h30⟩ (fun _ _ _ hr => by obtain ⟨_, _, _, _, g, _⟩ := hr; exact ⟨trivial, _, g⟩) (fun x47 v48 s41 σ H42 H50 N44 hr43 hg51 hx49 hm => ?_)⟩))))))))))))))))))))
      unfold m__law_reduce_b3 at hm
      obtain ⟨o55, o56, o57, rfl, g53, h54⟩ := hr43
      have h_modulus := Imm.mono g53 h_modulus
      have g0 := Gr.many g0 (all1 ((.inr nw7)) all0) g53
      have gl46 := Gr.many gl46 (all1 ((.inl (by simp))) all0) g53
      have h_modulus := Imm.mono hg51 h_modulus
      have h54 := Ls.g0 hg51 h54
      have g0 := g0.of0' hg51
      have gl46 := gl46.of0' hg51
      obtain rfl := hx49
      refine rd_gn (rd_seq (rd_asg (rd_op (rd_var rfl (rd_var rfl (ix_L (Ls.q h54) (wp_bind hm) fun t58 v59 h60 hm => ?_))))))
      obtain rfl := h60
      refine rd_gn ?_
      refine rd_nx ?_
      refine nx_join (t := tFor _ _ _) (wp_bind hm) (fun (s : (List Int)) (σ : L2.St) (H : Hp) => ∃ (o68 : Option V), σ = [some (.ref p4), some (.int a_p), some v_modulus, some (.int (((a_modulus).length : Int) - (1 : Int))), some (.int x47), some (.int t58), o68, none] ∧ Gr [p4] H50 H ∧ Ls rI H p4 s) (fun N62 hN63 hm => ?_) (fun s64 σ H65 hr66 hm => ?_)
      · have gl67 := Gr.refl (A := [p4]) H50
        obtain ⟨c73, hm⟩ := wp_grd hm
        have gl74 := Gr.refl (A := [p4]) H50
        refine rd_for (rd_r1 (rd_cons (rd_op (rd_var rfl (rd_c (rd_rI0 (rd_nil ⟨_, rfl, c73.1, c73.2, for_rngR (lo := 0) (n := (((((a_modulus).length : Int) - (1 : Int)) + (1 : Int))).toNat) (fun (s : (List Int)) (σ : L2.St) (H : Hp) => ∃ (o68 : Option V), σ = [some (.ref p4), some (.int a_p), some v_modulus, some (.int (((a_modulus).length : Int) - (1 : Int))), some (.int x47), some (.int t58), o68, none] ∧ Gr [p4] H50 H ∧ Ls rI H p4 s) (by exact wp_N hm (fun s σ' H' hr hz => hN63 s σ' H' hr hz)) ⟨_, rfl, gl74, h54⟩ (fun x75 s69 σ H70 N72 hr71 hm => ?_)⟩)))))))
        unfold m__law_reduce_b2 at hm
        obtain ⟨o81, rfl, g79, h80⟩ := hr71
        have h_modulus := Imm.mono g79 h_modulus
        have g0 := Gr.many g0 (all1 ((.inr nw7)) all0) g79
        have gl46 := Gr.many gl46 (all1 ((.inl (by simp))) all0) g79
        have gl74 := Gr.many gl74 (all1 ((.inl (by simp))) all0) g79
        refine rd_gn (rd_asg (rd_op (rd_cb (rd_cons (rd_op (rd_op (rd_var rfl (rd_op (rd_op (rd_var rfl (rd_var rfl (rd_rI0 (rd_var rfl (rd_rI0 (ix_L (Ls.q h80) (wp_bind hm) fun t82 v83 h84 hm => ?_)))))))))))))))
        obtain rfl := h84
        refine rd_op (rd_var rfl (rd_op (rd_var rfl (rd_var rfl (ix_T h_modulus (wp_bind hm) fun t85 v86 h87 hm => ?_)))))
        obtain rfl := h87
        obtain ⟨c88, hm⟩ := wp_grd hm
        obtain ⟨c89, hm⟩ := wp_grd hm
        refine rd_rI (c88) (rd_rI0 (rd_nil (rd_int (rd_var rfl (rd_rI c89 (rd_gs (rd_var rfl (rd_op (rd_op (rd_var rfl (rd_var rfl (rd_rI0 (rd_var rfl (rd_rI0 (rd_set h80 rfl (wp_bind hm) fun t90 H91 g92 h93 hm => ?_)))))))))))))))
        have h_modulus := Imm.mono g92 h_modulus
        have g0 := Gr.loc g0 nw7 g92
        have gl46 := Gr.at1 gl46 (by simp) g92
        have gl74 := Gr.at1 gl74 (by simp) g92
        exact hm _ _ ⟨_, rfl, gl74, h93⟩
      obtain ⟨o96, rfl, g94, h95⟩ := hr66
      have h_modulus := Imm.mono g94 h_modulus
      have g0 := Gr.many g0 (all1 ((.inr nw7)) all0) g94
      have gl46 := Gr.many gl46 (all1 ((.inl (by simp))) all0) g94
      exact hm _ _ ⟨_, _, _, rfl, gl46, h95⟩
    obtain ⟨o99, o100, o101, rfl, g97, h98⟩ := hr36
    have h_modulus := Imm.mono g97 h_modulus
    have g0 := Gr.many g0 (all1 ((.inr nw7)) all0) g97
    refine rd_seq (rd_asg (rd_op (rd_sl (rd_var rfl (rd_np (rd_part (rd_var rfl (rd_kI (cut_L (K := K) (Ls.q h98) fun p102 H103 n104 g105 h106 => ?_)))))))))
    have ne107 : p4 ≠ p102 := Ls.ne h98 n104
    have nw108 := Gr.free g0 n104
    have h98 := Ls.g0 g105 h98
    have g0 := g0.of0' g105
    obtain ⟨c109, hm⟩ := wp_grd hm
    refine rd_lc (rd_r1 (rd_cons (rd_op (rd_var rfl (rd_cb (rd_cons (rd_var rfl (rd_nil (len_L (Ls.q h98) (rd_rI0 (rd_nil ⟨_, rfl, c109.1, c109.2, fun p110 n111 => ?_⟩)))))))))))
    have ne112 : p4 ≠ p110 := Ls.ne h98 n111
    have ne113 : p102 ≠ p110 := Ls.ne h106 n111
    have nw114 := Gr.free g0 n111
    refine lc_rng (lo := 0) (n := (((((a_modulus).length : Int) - (1 : Int)) - ((s34).length : Int))).toNat) (fun (s : List Int) (H : Hp) => Gr [] H103 H ∧ Ls rI H p110 s) (wp_bind hm) ⟨Gr.new n111, ⟨[], upd_same, .nil⟩⟩ (fun x119 s118 H122 N123 hr124 hm => ?_) (fun s125 H126 hr127 hm => ?_)
    · unfold m__law_reduce_b4 at hm
      obtain ⟨g128, h129⟩ := hr124
      have h98 := Ls.gA g128 nin0 h98
      have h106 := Ls.gA g128 nin0 h106
      have g0 := Gr.of0' g0 g128
      have gl130 := g128
      obtain ⟨c131, hm⟩ := wp_grd hm
      refine rd_gn ⟨rfl, rd_yes (iteT (rd_c (lc_add h129 rfl c131 fun H132 g133 h134 => ?_)))⟩
      have h98 := Ls.g1 g133 ne112 h98
      have h106 := Ls.g1 g133 ne113 h106
      have g0 := Gr.loc g0 nw114 g133
      have gl130 := Gr.loc gl130 n111 g133
      exact hm _ ⟨gl130, h134⟩
    obtain ⟨g135, h136⟩ := hr127
    have h98 := Ls.gA g135 nin0 h98
    have h106 := Ls.gA g135 nin0 h106
    have g0 := Gr.of0' g0 g135
    obtain ⟨c137, hm⟩ := wp_grd hm
    refine cat_L h106 h136 c137 fun p138 H139 n140 g141 h142 => ?_
    have ne143 : p4 ≠ p138 := Ls.ne h98 n140
    have nw144 := Gr.free g0 n140
    have h98 := Ls.g0 g141 h98
    have g0 := g0.of0' g141
    refine rd_gn ?_
    refine rd_nx ?_
    refine rd_ret (rd_cb (rd_cons (rd_var rfl (rd_nil (tup_of_L (K := K) (Ls.q h142) fun v145 H146 g147 h148 => ?_)))))
    have h142 := Ls.g0 g147 h142
    have g0 := g0.of0' g147
    exact hm _ _ g0 h148

abbrev s__law_multiply : Stmt := topS 52
abbrev n__law_multiply : List Str := ["p", "modulus", "a", "b", "out", "i", "j", "k"]
theorem sc__law_multiply : FnScope n__law_multiply ["p", "modulus", "a", "b"] (defScope s__law_multiply) := ⟨rfl, rfl, rfl, by decide +kernel, rfl, by decide +kernel, by decide +kernel⟩
def m__law_multiply_b1 (s8 : List Int) (x9 : Int) : R (List Int) :=
  grd (lenLt s8) <| R.ok (s8 ++ [(0 : Int)])
def m__law_multiply_b2 (a_a : (List Int)) (a_b : (List Int)) (x42 : Int) (s58 : (List Int)) (x64 : Int) : R ((List Int)) :=
  (getL s58 (x42 + x64)).bind fun t71 => (getL a_a x42).bind fun t74 => (getL a_b x64).bind fun t77 => grd (CMul t74 t77) <| (setL s58 (x42 + x64) (t71 + (t74 * t77))).bind fun t81 => R.ok t81
def m__law_multiply_b3 (a_a : (List Int)) (a_b : (List Int)) (s36 : (List Int)) (x42 : Int) : R ((List Int)) :=
  (grd (rgOk ((a_b).length : Int)) <| foldR (m__law_multiply_b2 a_a a_b x42) s36 (rng 0 (((a_b).length : Int)).toNat)).bind fun s53 => R.ok s53
def m__law_multiply (a_p : Int) (a_modulus : (List Int)) (a_a : (List Int)) (a_b : (List Int)) : R (List Int) :=
  grd (rgOk (((a_a).length : Int) + ((a_b).length : Int))) <| (foldR m__law_multiply_b1 ([]) (rng 0 ((((a_a).length : Int) + ((a_b).length : Int))).toNat)).bind fun s15 => (grd (rgOk ((a_a).length : Int)) <| foldR (m__law_multiply_b3 a_a a_b) s15 (rng 0 (((a_a).length : Int)).toNat)).bind fun s30 => (m__law_reduce s30 a_p a_modulus).bind fun t92 => R.ok t92
def sp__law_multiply (K : PySem.W.Frag) : Sp := fun vs H Q _ => ∃ (a_p : Int) (a_modulus : (List Int)) (v_modulus : V) (a_a : (List Int)) (v_a : V) (a_b : (List Int)) (v_b : V), vs = [(.int a_p), v_modulus, v_a, v_b] ∧ (rT K rI) H a_modulus v_modulus ∧ (rT K rI) H a_a v_a ∧ (rT K rI) H a_b v_b ∧ wp (m__law_multiply a_p a_modulus a_a a_b) (fun r => ∀ v H', Gr [] H H' → (rT K rI) H' r v → Q v H') (fun _ => False)
theorem ok__law_multiply {P : Program} {w : World} {K : PySem.W.Frag} {mg : Str → Option Value} {base : Heap} {f : Addr} {fd : FuncData} (F : Fun K "_law_multiply" "_law_multiply" s__law_multiply f fd) (z_len : mg "len" = none) (z_range : mg "range" = none) (c__law_reduce : Cal P w K mg base CX0 1 "_law_reduce" ["row", "p", "modulus"] (sp__law_reduce K)) : FnOk P w K mg base CX0 2 f fd ["p", "modulus", "a", "b"] (sp__law_multiply K) := by
  obtain ⟨f__law_reduce, fd__law_reduce, G__law_reduce, g__law_reduce, k__law_reduce, b__law_reduce⟩ := c__law_reduce
  refine F.ok sc__law_multiply (fun vs H Q E h => ?_) (fun cdv A outer s H0 vs Q E hr h => ?_)
  · obtain ⟨a_p, a_modulus, v_modulus, a_a, v_a, a_b, v_b, rfl, h_modulus, h_a, h_b, hm⟩ := h
    rfl
  · obtain ⟨a_p, a_modulus, v_modulus, a_a, v_a, a_b, v_b, rfl, h_modulus, h_a, h_b, hm⟩ := h
    have hm : wp (m__law_multiply a_p a_modulus a_a a_b) _ _ := hm
    unfold m__law_multiply at hm
    refine ⟨_, (pss_cons (ps_setLc (i := 4) (own := [("k", 7)]) (g := gName 7) (tt := tYes) rfl sc__law_multiply.nd rfl rfl (sw_true rfl rfl rfl (by decide +kernel)) (pi_range1 (by rfl) z_range (pa_cons (pe_op op_add (pe_callB (lenK (K := K) rfl) (by rfl) z_len PySem.boot_len (pa_cons (pv 2) pa_nil)) (pe_callB (lenK (K := K) rfl) (by rfl) z_len PySem.boot_len (pa_cons (pv 3) pa_nil))) pa_nil)) (blkOk_by (own := [("k", 7)]) (N := n__law_multiply) (sc := defScope s__law_multiply) (by decide +kernel)) (fun _ _ _ _ _ => pg_name (i := 7) sc__law_multiply.nd rfl (Or.inl rfl)) (fun _ _ _ _ _ => pts_nil) (fun _ _ _ _ _ => pe_int)) (pss_cons (ps_for PassesOwn.never rfl (pi_range1 (by rfl) z_range (pa_cons (pe_callB (lenK (K := K) rfl) (by rfl) z_len PySem.boot_len (pa_cons (pv 2) pa_nil)) pa_nil)) (pg_name (i := 5) sc__law_multiply.nd rfl (Or.inl rfl)) (pss_one (ps_for PassesOwn.never rfl (pi_range1 (by rfl) z_range (pa_cons (pe_callB (lenK (K := K) rfl) (by rfl) z_len PySem.boot_len (pa_cons (pv 3) pa_nil)) pa_nil)) (pg_name (i := 6) sc__law_multiply.nd rfl (Or.inl rfl)) (pss_one (ps_asg (pe_op op_add (pe_ix (ix_listK (K := K) rfl) (pv 4) (pe_op op_add (pv 5) (pv 6)) (fun _ _ => rfl)) (pe_op op_mul (pe_ix (ix_tupK (K := K) rfl) (pv 2) (pv 5) (fun _ _ => rfl)) (pe_ix (ix_tupK (K := K) rfl) (pv 3) (pv 6) (fun _ _ => rfl)))) (pg_sub (pv 4) (pe_op op_add (pv 5) (pv 6)) set_list)))))) (pss_one (ps_ret (pe_call G__law_reduce (hr.mono (by decide)) (by rfl) g__law_reduce k__law_reduce b__law_reduce .nil pass0 (pa_cons (pv 4) (pa_cons (pv 0) (pa_cons (pv 1) pa_nil)))))))), ?_⟩
    have g0 := Gr.refl (A := []) H0
    obtain ⟨c1, hm⟩ := wp_grd hm
    refine rd_seq (rd_asg (rd_lc (rd_r1 (rd_cons (rd_op (rd_cb (rd_cons (rd_var rfl (rd_nil (len_T h_a (rd_cb (rd_cons (rd_var rfl (rd_nil (len_T h_b (rd_rI0 (rd_nil ⟨_, rfl, c1.1, c1.2, fun p2 n3 => ?_⟩)))))))))))))))))
    have nw4 := Gr.free g0 n3
    refine lc_rng (lo := 0) (n := ((((a_a).length : Int) + ((a_b).length : Int))).toNat) (fun (s : List Int) (H : Hp) => Gr [] H0 H ∧ Ls rI H p2 s) (wp_bind hm) ⟨Gr.new n3, ⟨[], upd_same, .nil⟩⟩ (fun x9 s8 H12 N13 hr14 hm => ?_) (fun s15 H16 hr17 hm => ?_)
    · unfold m__law_multiply_b1 at hm
      obtain ⟨g18, h19⟩ := hr14
      have h_modulus := Imm.mono g18 h_modulus
      have h_a := Imm.mono g18 h_a
      have h_b := Imm.mono g18 h_b
      have g0 := Gr.of0' g0 g18
      have gl20 := g18
      obtain ⟨c21, hm⟩ := wp_grd hm
      refine rd_gn ⟨rfl, rd_yes (iteT (rd_c (lc_add h19 rfl c21 fun H22 g23 h24 => ?_)))⟩
      have h_modulus := Imm.mono g23 h_modulus
      have h_a := Imm.mono g23 h_a
      have h_b := Imm.mono g23 h_b
      have g0 := Gr.loc g0 nw4 g23
      have gl20 := Gr.loc gl20 n3 g23
      exact hm _ ⟨gl20, h24⟩
    obtain ⟨g25, h26⟩ := hr17
    have h_modulus := Imm.mono g25 h_modulus
    have h_a := Imm.mono g25 h_a
    have h_b := Imm.mono g25 h_b
    have g0 := Gr.of0' g0 g25
    refine rd_gn ?_
    refine rd_nx ?_
    refine seq_join (t := tFor _ _ _) (wp_bind hm) (fun (s : (List Int)) (σ : L2.St) (H : Hp) => ∃ (o34 : Option V) (o35 : Option V), σ = [some (.int a_p), some v_modulus, some v_a, some v_b, some (.ref p2), o34, o35, none] ∧ Gr [p2] H16 H ∧ Ls rI H p2 s) (fun N28 hN29 hm => ?_) (fun s30 σ H31 hr32 hm => ?_)
    · have gl33 := Gr.refl (A := [p2]) H16
      obtain ⟨c40, hm⟩ := wp_grd hm
      have gl41 := Gr.refl (A := [p2]) H16
      refine rd_for (rd_r1 (rd_cons (rd_cb (rd_cons (rd_var rfl (rd_nil (len_T h_a (rd_nil ⟨_, rfl, c40.1, c40.2, for_rngR (lo := 0) (n := (((a_a).length : Int)).toNat) (fun (s : (List Int)) (σ : L2.St) (H : Hp) => ∃ (o34 : Option V) (o35 : Option V), σ = [some (.int a_p), some v_modulus, some v_a, some v_b, some (.ref p2), o34, o35, none] ∧ Gr [p2] H16 H ∧ Ls rI H p2 s) (by exact wp_N hm (fun s σ' H' hr hz => hN29 s σ' H' hr hz)) ⟨_, _, rfl, gl41, h26⟩ (fun x42 s36 σ H37 N39 hr38 hm => ?_)⟩))))))))
      unfold m__law_multiply_b3 at hm
      obtain ⟨o48, o49, rfl, g46, h47⟩ := hr38
      have h_modulus := Imm.mono g46 h_modulus
      have h_a := Imm.mono g46 h_a
      have h_b := Imm.mono g46 h_b
      have g0 := Gr.many g0 (all1 ((.inr nw4)) all0) g46
      have gl41 := Gr.many gl41 (all1 ((.inl (by simp))) all0) g46
      refine nx_join (t := tFor _ _ _) (wp_bind hm) (fun (s : (List Int)) (σ : L2.St) (H : Hp) => ∃ (o57 : Option V), σ = [some (.int a_p), some v_modulus, some v_a, some v_b, some (.ref p2), some (.int x42), o57, none] ∧ Gr [p2] H37 H ∧ Ls rI H p2 s) (fun N51 hN52 hm => ?_) (fun s53 σ H54 hr55 hm => ?_)
      · have gl56 := Gr.refl (A := [p2]) H37
        obtain ⟨c62, hm⟩ := wp_grd hm
        have gl63 := Gr.refl (A := [p2]) H37
        refine rd_gn (rd_for (rd_r1 (rd_cons (rd_cb (rd_cons (rd_var rfl (rd_nil (len_T h_b (rd_nil ⟨_, rfl, c62.1, c62.2, for_rngR (lo := 0) (n := (((a_b).length : Int)).toNat) (fun (s : (List Int)) (σ : L2.St) (H : Hp) => ∃ (o57 : Option V), σ = [some (.int a_p), some v_modulus, some v_a, some v_b, some (.ref p2), some (.int x42), o57, none] ∧ Gr [p2] H37 H ∧ Ls rI H p2 s) (by exact wp_N hm (fun s σ' H' hr hz => hN52 s σ' H' hr hz)) ⟨_, rfl, gl63, h47⟩ (fun x64 s58 σ H59 N61 hr60 hm => ?_)⟩)))))))))
        unfold m__law_multiply_b2 at hm
        obtain ⟨o70, rfl, g68, h69⟩ := hr60
        have h_modulus := Imm.mono g68 h_modulus
        have h_a := Imm.mono g68 h_a
        have h_b := Imm.mono g68 h_b
        have g0 := Gr.many g0 (all1 ((.inr nw4)) all0) g68
        have gl41 := Gr.many gl41 (all1 ((.inl (by simp))) all0) g68
        have gl63 := Gr.many gl63 (all1 ((.inl (by simp))) all0) g68
        refine rd_gn (rd_asg (rd_op (rd_op (rd_var rfl (rd_op (rd_var rfl (rd_var rfl (rd_rI0 (ix_L (Ls.q h69) (wp_bind hm) fun t71 v72 h73 hm => ?_)))))))))
        obtain rfl := h73
        refine rd_op (rd_op (rd_var rfl (rd_var rfl (ix_T h_a (wp_bind hm) fun t74 v75 h76 hm => ?_))))
        obtain rfl := h76
        refine rd_op (rd_var rfl (rd_var rfl (ix_T h_b (wp_bind hm) fun t77 v78 h79 hm => ?_)))
        obtain rfl := h79
        obtain ⟨c80, hm⟩ := wp_grd hm
        refine rd_rI (c80) (rd_rI0 (rd_gs (rd_var rfl (rd_op (rd_var rfl (rd_var rfl (rd_rI0 (rd_set h69 rfl (wp_bind hm) fun t81 H82 g83 h84 hm => ?_))))))))
        have h_modulus := Imm.mono g83 h_modulus
        have h_a := Imm.mono g83 h_a
        have h_b := Imm.mono g83 h_b
        have g0 := Gr.loc g0 nw4 g83
        have gl41 := Gr.at1 gl41 (by simp) g83
        have gl63 := Gr.at1 gl63 (by simp) g83
        exact hm _ _ ⟨_, rfl, gl63, h84⟩
      obtain ⟨o87, rfl, g85, h86⟩ := hr55
      have h_modulus := Imm.mono g85 h_modulus
      have h_a := Imm.mono g85 h_a
      have h_b := Imm.mono g85 h_b
      have g0 := Gr.many g0 (all1 ((.inr nw4)) all0) g85
      have gl41 := Gr.many gl41 (all1 ((.inl (by simp))) all0) g85
      exact hm _ _ ⟨_, _, rfl, gl41, h86⟩
    obtain ⟨o90, o91, rfl, g88, h89⟩ := hr32
    have h_modulus := Imm.mono g88 h_modulus
    have h_a := Imm.mono g88 h_a
    have h_b := Imm.mono g88 h_b
    have g0 := Gr.many g0 (all1 ((.inr nw4)) all0) g88
    refine rd_ret (rd_call (rd_cons (rd_var rfl (rd_cons (rd_var rfl (rd_cons (rd_var rfl (rd_nil ⟨_, _, _, _, _, rfl, h89, h_modulus, wp_imp (wp_bind hm) (fun t92 hm v95 H93 g94 h96 => ?_) (fun _ e => e)⟩))))))))
    have h_modulus := Imm.mono g94 h_modulus
    have h89 := Ls.g0 g94 h89
    have g0 := g0.of0' g94
    exact hm _ _ g0 h96

abbrev s_Field_zero : Stmt := inClass (topS 31) 3
abbrev n_Field_zero : List Str := ["self"]
theorem sc_Field_zero : FnScope n_Field_zero ["self"] (defScope s_Field_zero) := ⟨rfl, rfl, rfl, by decide +kernel, rfl, by decide +kernel, by decide +kernel⟩
def m_Field_zero (a_self : O_Field) : R (List Int) :=
  (getL a_self.2.2.2.2.1 (0 : Int)).bind fun t3 => R.ok t3
def sp_Field_zero (K : PySem.W.Frag) (c_Field : Addr) : Sp := fun vs H Q _ => ∃ (a_self : O_Field) (v_self : V), vs = [v_self] ∧ (rO_Field K c_Field) H a_self v_self ∧ wp (m_Field_zero a_self) (fun r => ∀ v H', Gr [] H H' → (rT K rI) H' r v → Q v H') (fun _ => False)
theorem ok_Field_zero {P : Program} {w : World} {K : PySem.W.Frag} {mg : Str → Option Value} {base : Heap} {f : Addr} {fd : FuncData} {c_Field : Addr} (F : Fun K "zero" "Field.zero" s_Field_zero f fd) (kl_Field : Cls K c_Field) (na_Field__members : NoAttr K c_Field "_members") : FnOk P w K mg base CX0 1 f fd ["self"] (sp_Field_zero K c_Field) := by
  refine F.ok sc_Field_zero (fun vs H Q E h => ?_) (fun cdv A outer s H0 vs Q E hr h => ?_)
  · obtain ⟨a_self, v_self, rfl, h_self, hm⟩ := h
    rfl
  · obtain ⟨a_self, v_self, rfl, h_self, hm⟩ := h
    have hm : wp (m_Field_zero a_self) _ _ := hm
    unfold m_Field_zero at hm
    refine ⟨_, (pss_one (ps_ret (pe_ix (ix_tupK (K := K) rfl) (pe_fldK (K := K) rfl (pv 0) rfl) pe_int (fun _ _ => rfl)))), ?_⟩
    have g0 := Gr.refl (A := []) H0
    refine rd_ret (rd_op (rd_fld (rd_var rfl (fld_Field__members h_self kl_Field na_Field__members fun v1 h2 => ?_))))
    refine rd_c (ix_T h2 (wp_bind hm) fun t3 v4 h5 hm => ?_)
    exact hm _ _ g0 h5

abbrev s_check_not_zero : Stmt := topS 44
abbrev n_check_not_zero : List Str := ["field", "a"]
theorem sc_check_not_zero : FnScope n_check_not_zero ["field", "a"] (defScope s_check_not_zero) := ⟨rfl, rfl, rfl, by decide +kernel, rfl, by decide +kernel, by decide +kernel⟩
def m_check_not_zero (a_field : O_Field) (a_a : (List Int)) : R Unit :=
  (noEr (m_Field_zero a_field)).bind fun t1 => if (decide (a_a = t1)) = true then R.out else (R.ok ())
def sp_check_not_zero (K : PySem.W.Frag) (c_Field : Addr) (C : Xc) : Sp := fun vs H Q E => ∃ (a_field : O_Field) (v_field : V) (a_a : (List Int)) (v_a : V), vs = [v_field, v_a] ∧ (rO_Field K c_Field) H a_field v_field ∧ (rT K rI) H a_a v_a ∧ wp (m_check_not_zero a_field a_a) (fun r => ∀ H', Gr [] H H' → Q .non H') (XEr C [] H E)
theorem ok_check_not_zero {P : Program} {w : World} {K : PySem.W.Frag} {mg : Str → Option Value} {base : Heap} {f : Addr} {fd : FuncData} {c_fault c_zd c_mal c_refu : Addr} {c_Field : Addr} (F : Fun K "check_not_zero" "check_not_zero" s_check_not_zero f fd) (kl_Field : Cls K c_Field) (c_Field_zero : CalM P w K mg base CX0 1 c_Field "zero" ["self"] (sp_Field_zero K c_Field)) : FnOk P w K mg base (CX P w) 2 f fd ["field", "a"] (sp_check_not_zero K c_Field (⟨some c_fault, some c_zd, some c_mal, some c_refu, none⟩ : Xc)) := by
  obtain ⟨f_Field_zero, fd_Field_zero, G_Field_zero, M_Field_zero, b_Field_zero⟩ := c_Field_zero
  refine F.okX sc_check_not_zero (fun vs H Q E h => ?_) (fun cdv A outer s H0 vs Q E hr h => ?_)
  · obtain ⟨a_field, v_field, a_a, v_a, rfl, h_field, h_a, hm⟩ := h
    rfl
  · obtain ⟨a_field, v_field, a_a, v_a, rfl, h_field, h_a, hm⟩ := h
    have hm : wp (m_check_not_zero a_field a_a) _ _ := hm
    unfold m_check_not_zero at hm
    refine ⟨_, (pss_one (ps_if (pt_cmpR (eqDK (K := K) hr.units rfl) (pv 1) (pe_methS0 (pv 0) kl_Field M_Field_zero G_Field_zero (hr.mono (by decide)) b_Field_zero passN) (nomark _)) (pss_one ps_never) pss_nil)), ?_⟩
    have g0 := Gr.refl (A := []) H0
    refine rd_if (rd_T (rd_op (rd_var rfl (rd_meth (rd_var rfl (meth_Field h_field (by decide +kernel) (rd_nil ⟨_, _, rfl, h_field, wp_imp (wp_bindN hm) (fun t1 hm v4 H2 g3 h5 => ?_) (fun _ e => e)⟩)))))))
    have h_field := Imm.mono g3 h_field
    have h_a := Imm.mono g3 h_a
    have g0 := g0.of0' g3
    refine eq_D (DRep.tup (DRep.int K)) h_a h5 (rd_kB ?_)
    refine iteB (fun e6 => ?_) (fun e6 => ?_)
    · have hm := ifT e6 (wp_iteB hm)
      exact (show False from hm).elim
    have hm := ifF e6 (wp_iteB hm)
    exact rd_next (hm _ g0)

abbrev s_Field_one : Stmt := inClass (topS 31) 4
abbrev n_Field_one : List Str := ["self"]
theorem sc_Field_one : FnScope n_Field_one ["self"] (defScope s_Field_one) := ⟨rfl, rfl, rfl, by decide +kernel, rfl, by decide +kernel, by decide +kernel⟩
def m_Field_one (a_self : O_Field) : R (List Int) :=
  (getL a_self.2.2.2.2.1 (1 : Int)).bind fun t3 => R.ok t3
def sp_Field_one (K : PySem.W.Frag) (c_Field : Addr) : Sp := fun vs H Q _ => ∃ (a_self : O_Field) (v_self : V), vs = [v_self] ∧ (rO_Field K c_Field) H a_self v_self ∧ wp (m_Field_one a_self) (fun r => ∀ v H', Gr [] H H' → (rT K rI) H' r v → Q v H') (fun _ => False)
theorem ok_Field_one {P : Program} {w : World} {K : PySem.W.Frag} {mg : Str → Option Value} {base : Heap} {f : Addr} {fd : FuncData} {c_Field : Addr} (F : Fun K "one" "Field.one" s_Field_one f fd) (kl_Field : Cls K c_Field) (na_Field__members : NoAttr K c_Field "_members") : FnOk P w K mg base CX0 1 f fd ["self"] (sp_Field_one K c_Field) := by
  refine F.ok sc_Field_one (fun vs H Q E h => ?_) (fun cdv A outer s H0 vs Q E hr h => ?_)
  · obtain ⟨a_self, v_self, rfl, h_self, hm⟩ := h
    rfl
  · obtain ⟨a_self, v_self, rfl, h_self, hm⟩ := h
    have hm : wp (m_Field_one a_self) _ _ := hm
    unfold m_Field_one at hm
    refine ⟨_, (pss_one (ps_ret (pe_ix (ix_tupK (K := K) rfl) (pe_fldK (K := K) rfl (pv 0) rfl) pe_int (fun _ _ => rfl)))), ?_⟩
    have g0 := Gr.refl (A := []) H0
    refine rd_ret (rd_op (rd_fld (rd_var rfl (fld_Field__members h_self kl_Field na_Field__members fun v1 h2 => ?_))))
    refine rd_c (ix_T h2 (wp_bind hm) fun t3 v4 h5 hm => ?_)
    exact hm _ _ g0 h5

abbrev s_Field_power : Stmt := inClass (topS 31) 13
abbrev n_Field_power : List Str := ["self", "a", "k"]
theorem sc_Field_power : FnScope n_Field_power ["self", "a", "k"] (defScope s_Field_power) := ⟨rfl, rfl, rfl, by decide +kernel, rfl, by decide +kernel, by decide +kernel⟩
def m_Field_power (a_self : O_Field) (a_a : (List Int)) (a_k : Int) : R (List Int) :=
  (noEr (m_Field_zero a_self)).bind fun t1 => if (!decide (a_a = t1)) = true then ((getM a_self.2.2.2.2.2.2.1 a_a).bind fun t11 => grd (CMul t11 a_k) <| grd (0 < (a_self.2.2.2.1 - (1 : Int))) <| (getL a_self.2.2.2.2.2.1 ((t11 * a_k) % (a_self.2.2.2.1 - (1 : Int)))).bind fun t18 => R.ok t18) else (if (decide (a_k < (0 : Int))) = true then (R.er .zd) else (((R.ok (decide (a_k = (0 : Int)))).bind fun b => if b = true then (noEr (m_Field_one a_self)).bind fun t26 => R.ok t26 else R.ok a_a).bind fun t34 => R.ok t34))
def sp_Field_power (K : PySem.W.Frag) (c_Field : Addr) (C : Xc) : Sp := fun vs H Q E => ∃ (a_self : O_Field) (v_self : V) (a_a : (List Int)) (v_a : V) (a_k : Int), vs = [v_self, v_a, (.int a_k)] ∧ (rO_Field K c_Field) H a_self v_self ∧ (rT K rI) H a_a v_a ∧ wp (m_Field_power a_self a_a a_k) (fun r => ∀ v H', Gr [] H H' → (rT K rI) H' r v → Q v H') (XEr C [] H E)
theorem ok_Field_power {P : Program} {w : World} {K : PySem.W.Frag} {mg : Str → Option Value} {base : Heap} {f : Addr} {fd : FuncData} {c_fault c_zd c_mal c_refu : Addr} {c_Field : Addr} (F : Fun K "power" "Field.power" s_Field_power f fd) (kl_Field : Cls K c_Field) (na_Field__powers : NoAttr K c_Field "_powers") (na_Field__logarithms : NoAttr K c_Field "_logarithms") (na_Field_q : NoAttr K c_Field "q") (Xk_zd : Xk K mg "ZeroDivisor" c_zd) (c_Field_zero : CalM P w K mg base CX0 1 c_Field "zero" ["self"] (sp_Field_zero K c_Field)) (c_Field_one : CalM P w K mg base CX0 1 c_Field "one" ["self"] (sp_Field_one K c_Field)) : FnOk P w K mg base (CX P w) 2 f fd ["self", "a", "k"] (sp_Field_power K c_Field (⟨some c_fault, some c_zd, some c_mal, some c_refu, none⟩ : Xc)) := by
  obtain ⟨f_Field_zero, fd_Field_zero, G_Field_zero, M_Field_zero, b_Field_zero⟩ := c_Field_zero
  obtain ⟨f_Field_one, fd_Field_one, G_Field_one, M_Field_one, b_Field_one⟩ := c_Field_one
  refine F.okX sc_Field_power (fun vs H Q E h => ?_) (fun cdv A outer s H0 vs Q E hr h => ?_)
  · obtain ⟨a_self, v_self, a_a, v_a, a_k, rfl, h_self, h_a, hm⟩ := h
    rfl
  · obtain ⟨a_self, v_self, a_a, v_a, a_k, rfl, h_self, h_a, hm⟩ := h
    have hm : wp (m_Field_power a_self a_a a_k) _ _ := hm
    unfold m_Field_power at hm
    refine ⟨_, (pss_cons (ps_if (pt_cmpR (neDK (K := K) hr.units rfl) (pv 1) (pe_methS0 (pv 0) kl_Field M_Field_zero G_Field_zero (hr.mono (by decide)) b_Field_zero passN) (nomark _)) (pss_one (ps_ret (pe_ix (ix_tupK (K := K) rfl) (pe_fldK (K := K) rfl (pv 0) rfl) (pe_op op_mod (pe_op op_mul (pe_dgetA (K := K) rfl (u1 hr.units) (pe_fldK (K := K) rfl (pv 0) rfl) (pv 1) (fun _ _ => rfl)) (pv 2)) (pe_op op_sub (pe_fldK (K := K) rfl (pv 0) rfl) pe_int)) (fun _ _ => rfl)))) pss_nil) (pss_cons (ps_if (pt_cmpR op_lt (pv 2) pe_int (nomark _)) (pss_one (ps_raise rfl (takes_of rfl rfl rfl rfl) (pmk_own PySem.F.excBase_ValueError Xk_zd.x Xk_zd.g Xk_zd.k (raises_own Xk_zd.b Xk_zd.t) (by rfl)))) pss_nil) (pss_one (ps_ret (pe_ifExp (pt_cmpR op_eqI (pv 2) pe_int (nomark _)) (pe_methS0 (pv 0) kl_Field M_Field_one G_Field_one (hr.mono (by decide)) b_Field_one passN) (pv 1)))))), ?_⟩
    have g0 := Gr.refl (A := []) H0
    refine rd_seq (rd_if (rd_T (rd_op (rd_var rfl (rd_meth (rd_var rfl (meth_Field h_self (by decide +kernel) (rd_nil ⟨_, _, rfl, h_self, wp_imp (wp_bindN hm) (fun t1 hm v4 H2 g3 h5 => ?_) (fun _ e => e)⟩))))))))
    have h_self := Imm.mono g3 h_self
    have h_a := Imm.mono g3 h_a
    have g0 := g0.of0' g3
    refine ne_D (DRep.tup (DRep.int K)) h_a h5 (rd_kB ?_)
    refine iteB (fun e6 => ?_) (fun e6 => ?_)
    · have hm := ifT e6 (wp_iteB hm)
      refine rd_ret (rd_op (rd_fld (rd_var rfl (fld_Field__powers h_self kl_Field na_Field__powers fun v7 h8 => ?_))))
      refine rd_op (rd_op (rd_dgD (rd_fld (rd_var rfl (fld_Field__logarithms h_self kl_Field na_Field__logarithms fun v9 h10 => ?_)))))
      refine rd_var rfl (dget_D h10 h_a (wp_bind hm) fun t11 v12 h13 hm => ?_)
      obtain rfl := h13
      obtain ⟨c14, hm⟩ := wp_grd hm
      refine rd_var rfl (rd_rI (c14) (rd_op (rd_fld (rd_var rfl (fld_Field_q h_self kl_Field na_Field_q fun v15 h16 => ?_)))))
      obtain rfl := h16
      obtain ⟨c17, hm⟩ := wp_grd hm
      refine rd_c (rd_rI0 (rd_rI c17 (ix_T h8 (wp_bind hm) fun t18 v19 h20 hm => ?_)))
      exact hm _ _ g0 h20
    have hm := ifF e6 (wp_iteB hm)
    refine rd_next (rd_nx ?_)
    refine rd_seq (rd_if (rd_T (rd_op (rd_var rfl (rd_c (rd_rI0 (rd_kB ?_)))))))
    refine iteB (fun e21 => ?_) (fun e21 => ?_)
    · have hm := ifT e21 (wp_iteB hm)
      exact xe0_at hm rfl g0
    have hm := ifF e21 (wp_iteB hm)
    refine rd_next (rd_nx ?_)
    refine rd_ret ((ev_if (r := (rT K rI)) (fun Q hm => by
        have gb22 := Gr.refl (A := []) H2
        exact rd_T (rd_op (rd_var rfl (rd_c (rd_rI0 (rd_kB (hm _ gb22))))))) (fun H23 g24 Q hm => by
        have h_self := Imm.mono g24 h_self
        have h_a := Imm.mono g24 h_a
        have g0 := g0.of0' g24
        have gb25 := Gr.refl (A := []) H23
        refine rd_meth (rd_var rfl (meth_Field h_self (by decide +kernel) (rd_nil ⟨_, _, rfl, h_self, wp_imp (wp_bindN hm) (fun t26 hm v29 H27 g28 h30 => ?_) (fun _ e => e)⟩)))
        have h_self := Imm.mono g28 h_self
        have h_a := Imm.mono g28 h_a
        have g0 := g0.of0' g28
        have gb25 := gb25.of0' g28
        exact hm _ _ gb25 h30) (fun H31 g32 Q hm => by
        have h_self := Imm.mono g32 h_self
        have h_a := Imm.mono g32 h_a
        have g0 := g0.of0' g32
        have gb33 := Gr.refl (A := []) H31
        exact rd_var rfl (hm _ _ gb33 h_a))) _ (wp_imp (wp_bind hm) (fun t34 hm v35 H36 g37 h38 => ?_) (fun _ e => e)))
    have h_self := Imm.mono g37 h_self
    have h_a := Imm.mono g37 h_a
    have g0 := g0.of0' g37
    exact hm _ _ g0 h38

abbrev lw_lam2 : LW := lwOf "order_of.<locals>.<lambda>" (aArg 1 (aReturn (aBody 1 (topS 45))))
theorem ndb_lam2 : NdefX.ndefB (defScope (topS 45)) lw_lam2.scope ["field", "a"] = true := by decide +kernel
def m_lam2 (k_field : O_Field) (k_a : (List Int)) (a_k : Int) : R Bool :=
  (m_Field_power k_field k_a a_k).bind fun t1 => (noEr (m_Field_one k_field)).bind fun t6 => R.ok (decide (t1 = t6))
def spl_lam2 (K : PySem.W.Frag) (c_Field : Addr) (C : Xc) : List (Option V) → Sp := fun ws vs H Q E => ∃ (k_field : O_Field) (vk_field : V) (k_a : (List Int)) (vk_a : V) (a_k : Int), ws = [some vk_field, some vk_a] ∧ vs = [(.int a_k)] ∧ (rO_Field K c_Field) H k_field vk_field ∧ (rT K rI) H k_a vk_a ∧ wp (m_lam2 k_field k_a a_k) (fun r => ∀ H', Gr [] H H' → Q (.bl r) H') (XEr C [] H E)
theorem nsc_lam2 : NdefX.NScope ["k", "field", "a"] ["k"] ["field", "a"] lw_lam2.scope := NdefX.nscope_by (by decide +kernel)
theorem okl_lam2 {P : Program} {w : World} {K : PySem.W.Frag} {mg : Str → Option Value} {base : Heap} {c_fault c_zd c_mal c_refu : Addr} {c_Field : Addr}  (kl_Field : Cls K c_Field) (c_Field_power : CalM P w K mg base (CX P w) 2 c_Field "power" ["self", "a", "k"] (sp_Field_power K c_Field (⟨some c_fault, some c_zd, some c_mal, some c_refu, none⟩ : Xc))) (c_Field_one : CalM P w K mg base CX0 1 c_Field "one" ["self"] (sp_Field_one K c_Field)) : LOk P w K mg base (CX P w) 3 lw_lam2 ["k"] ["field", "a"] (spl_lam2 K c_Field (⟨some c_fault, some c_zd, some c_mal, some c_refu, none⟩ : Xc)) := by
  obtain ⟨f_Field_power, fd_Field_power, G_Field_power, M_Field_power, b_Field_power⟩ := c_Field_power
  obtain ⟨f_Field_one, fd_Field_one, G_Field_one, M_Field_one, b_Field_one⟩ := c_Field_one
  refine lok_of nsc_lam2 (fun _ _ _ _ us hl => match us, hl with | [_], _ => rfl) (fun ws vs H Q E h => ?_) (fun A outer s H0 vs ws Q E f c cl hr h => ?_)
  · obtain ⟨k_field, vk_field, k_a, vk_a, a_k, rfl, rfl, hk_field, hk_a, hm⟩ := h
    rfl
  · obtain ⟨k_field, vk_field, k_a, vk_a, a_k, rfl, rfl, hk_field, hk_a, hm⟩ := h
    have hm : wp (m_lam2 k_field k_a a_k) _ _ := hm
    unfold m_lam2 at hm
    refine ⟨_, (pe_cmpR (eqDK (K := K) hr.units rfl) (pe_methS (pv 1) kl_Field M_Field_power G_Field_power (hr.mono (by decide)) b_Field_power (fun σ => passAt (takes_of rfl rfl rfl rfl) σ) (pa_cons (pv 2) (pa_cons (pv 0) pa_nil))) (pe_methS0 (pv 1) kl_Field M_Field_one G_Field_one (hr.mono (by decide)) b_Field_one passN) (nomark _)), ?_⟩
    have g0 := Gr.refl (A := []) H0
    refine rd_op (rd_meth (rd_var rfl (meth_Field hk_field (by decide +kernel) (rd_cons (rd_var rfl (rd_cons (rd_var rfl (rd_nil ⟨_, _, _, _, _, rfl, hk_field, hk_a, wp_imp (wp_bind hm) (fun t1 hm v4 H2 g3 h5 => ?_) (fun _ e => XEr.sub g0 e)⟩))))))))
    have hk_field := Imm.mono g3 hk_field
    have hk_a := Imm.mono g3 hk_a
    have g0 := g0.of0' g3
    refine rd_meth (rd_var rfl (meth_Field hk_field (by decide +kernel) (rd_nil ⟨_, _, rfl, hk_field, wp_imp (wp_bindN hm) (fun t6 hm v9 H7 g8 h10 => ?_) (fun _ e => e)⟩)))
    have hk_field := Imm.mono g8 hk_field
    have hk_a := Imm.mono g8 hk_a
    have h5 := Imm.mono g8 h5
    have g0 := g0.of0' g8
    exact eq_D (DRep.tup (DRep.int K)) h5 h10 (hm _ g0)

abbrev s_prime_powers : Stmt := topS 10
abbrev n_prime_powers : List Str := ["n", "pairs", "rest", "p", "k"]
theorem sc_prime_powers : FnScope n_prime_powers ["n"] (defScope s_prime_powers) := ⟨rfl, rfl, rfl, by decide +kernel, rfl, by decide +kernel, by decide +kernel⟩
def m_prime_powers_b1 (s15 : (List (Int × Int)) × Int × Int) : R Bool :=
  R.ok (decide ((1 : Int) < s15.2.1))
def m_prime_powers_b2 (t28 : Int) (s38 : Int × Int) : R Bool :=
  grd (0 < t28) <| R.ok (decide ((s38.1 % t28) = (0 : Int)))
def m_prime_powers_b3 (t28 : Int) (s38 : Int × Int) : R (Int × Int) :=
  grd (CDiv s38.1 t28) <| R.ok ((s38.1 / t28), (s38.2 + (1 : Int)))
def m_prime_powers_b4 (s15 : (List (Int × Int)) × Int × Int) : R ((List (Int × Int)) × Int × Int) :=
  (m_least_divisor s15.2.1 s15.2.2).bind fun t28 => (whileR (m_prime_powers_b2 t28) (m_prime_powers_b3 t28) 100000 (s15.2.1, (0 : Int))).bind fun s34 => grd (lenLt s15.1) <| R.ok ((s15.1 ++ [(t28, s34.2)]), s34.1, t28)
def m_prime_powers (a_n : Int) : R (List (Int × Int)) :=
  (whileR m_prime_powers_b1 m_prime_powers_b4 100000 (([] : List (Int × Int)), a_n, (2 : Int))).bind fun s10 => R.ok s10.1
def sp_prime_powers (K : PySem.W.Frag) : Sp := fun vs H Q _ => ∃ (a_n : Int), vs = [(.int a_n)] ∧ wp (m_prime_powers a_n) (fun r => ∀ v H', Gr [] H H' → (rT K (rP K rI rI)) H' r v → Q v H') (fun _ => False)
theorem ok_prime_powers {P : Program} {w : World} {K : PySem.W.Frag} {mg : Str → Option Value} {base : Heap} {f : Addr} {fd : FuncData} (F : Fun K "prime_powers" "prime_powers" s_prime_powers f fd) (z_tuple : mg "tuple" = none) (c_least_divisor : Cal P w K mg base CX0 1 "least_divisor" ["n", "start"] (sp_least_divisor K)) : FnOk P w K mg base CX0 2 f fd ["n"] (sp_prime_powers K) := by
  obtain ⟨f_least_divisor, fd_least_divisor, G_least_divisor, g_least_divisor, k_least_divisor, b_least_divisor⟩ := c_least_divisor
  refine F.ok sc_prime_powers (fun vs H Q E h => ?_) (fun cdv A outer s H0 vs Q E hr h => ?_)
  · obtain ⟨a_n, rfl, hm⟩ := h
    rfl
  · obtain ⟨a_n, rfl, hm⟩ := h
    have hm : wp (m_prime_powers a_n) _ _ := hm
    unfold m_prime_powers at hm
    refine ⟨_, (pss_cons (ps_set (i := 1) sc_prime_powers.nd rfl (Or.inl rfl) (pe_lst pa_nil)) (pss_cons (ps_set (i := 2) sc_prime_powers.nd rfl (Or.inl rfl) (pv 0)) (pss_cons (ps_set (i := 3) sc_prime_powers.nd rfl (Or.inl rfl) pe_int) (pss_cons (ps_while PassesOwn.never (pt_cmpR op_gt (pv 2) pe_int (nomark _)) (pss_cons (ps_set (i := 3) sc_prime_powers.nd rfl (Or.inl rfl) (pe_call G_least_divisor (hr.mono (by decide)) (by rfl) g_least_divisor k_least_divisor b_least_divisor .nil pass0 (pa_cons (pv 2) (pa_cons (pv 3) pa_nil)))) (pss_cons (ps_set (i := 4) sc_prime_powers.nd rfl (Or.inl rfl) pe_int) (pss_cons (ps_while PassesOwn.never (pt_cmpR op_eqI (pe_op op_mod (pv 2) (pv 3)) pe_int (nomark _)) (pss_cons (ps_set (i := 2) sc_prime_powers.nd rfl (Or.inl rfl) (pe_op op_fdiv (pv 2) (pv 3))) (pss_one (ps_aug (i := 4) sc_prime_powers.nd rfl (Or.inl rfl) pe_int ip_add)))) (pss_one (ps_expr (pe_bm PySem.F.plainAttrs_list PySem.F.slot_list_append PySem.F.type_list_append mt_append (pv 1) (pa_cons (pe_tup (pa_cons (pv 3) (pa_cons (pv 4) pa_nil))) pa_nil)))))))) (pss_one (ps_ret (pe_callTy (tupleK (K := K) rfl) (by rfl) z_tuple (by decide +kernel) (pa_cons (pv 1) pa_nil)))))))), ?_⟩
    have g0 := Gr.refl (A := []) H0
    refine rd_seq (rd_asg (rd_lst (rd_nil (mk_L (r := (rP K rI rI)) (xs := ([] : List (Int × Int))) .nil (by show 0 ≤ sizeLine; decide) fun p1 H2 n3 g4 h5 => ?_))))
    have nw6 := Gr.free g0 n3
    have g0 := g0.of0' g4
    refine rd_gn ?_
    refine rd_nx ?_
    refine rd_seq (rd_asg (rd_var rfl (rd_gn ?_)))
    refine rd_nx ?_
    refine rd_seq (rd_asg (rd_c (rd_gn ?_)))
    refine rd_nx ?_
    refine seq_join (t := tWhile _ _) (wp_bind hm) (fun (s : (List (Int × Int)) × Int × Int) (σ : L2.St) (H : Hp) => ∃ (o14 : Option V), σ = [some (.int a_n), some (.ref p1), some (.int s.2.1), some (.int s.2.2), o14] ∧ Gr [p1] H2 H ∧ Ls (rP K rI rI) H p1 s.1) (fun N8 hN9 hm => ?_) (fun s10 σ H11 hr12 hm => ?_)
    · have gl13 := Gr.refl (A := [p1]) H2
      refine whl_R (fun (s : (List (Int × Int)) × Int × Int) (σ : L2.St) (H : Hp) => ∃ (o14 : Option V), σ = [some (.int a_n), some (.ref p1), some (.int s.2.1), some (.int s.2.2), o14] ∧ Gr [p1] H2 H ∧ Ls (rP K rI rI) H p1 s.1) (by exact wp_N hm (fun s σ' H' hr hz => hN9 s σ' H' hr hz)) ⟨_, rfl, gl13, h5⟩ (fun s15 σ H16 N18 W19 m20 hW21 hr17 hm => ?_)
      unfold m_prime_powers_b1 at hm
      obtain ⟨o26, rfl, g24, h25⟩ := hr17
      have g0 := Gr.many g0 (all1 ((.inr nw6)) all0) g24
      have gl13 := Gr.many gl13 (all1 ((.inl (by simp))) all0) g24
      refine rd_T (rd_op (rd_var rfl (rd_c (rd_rI0 (rd_kB ?_)))))
      refine iteB' (fun e27 => ?_) (fun e27 => ?_)
      · exact ifF e27 hm _ _ ⟨_, rfl, gl13, h25⟩
      have hm := ifT e27 hm
      unfold m_prime_powers_b4 at hm
      refine ⟨N18, hW21, ?_⟩
      refine rd_seq (rd_asg (rd_call (rd_cons (rd_var rfl (rd_cons (rd_var rfl (rd_nil ⟨_, _, rfl, wp_imp (wp_bind hm) (fun t28 hm H29 g30 => ?_) (fun _ e => e)⟩)))))))
      have h25 := Ls.g0 g30 h25
      have g0 := g0.of0' g30
      have gl13 := gl13.of0' g30
      refine rd_gn ?_
      refine rd_nx ?_
      refine rd_seq (rd_asg (rd_c (rd_gn ?_)))
      refine rd_nx ?_
      refine seq_join (t := tWhile _ _) (wp_bind hm) (fun (s : Int × Int) (σ : L2.St) (H : Hp) => σ = [some (.int a_n), some (.ref p1), some (.int s.1), some (.int t28), some (.int s.2)] ∧ Gr [] H29 H) (fun N32 hN33 hm => ?_) (fun s34 σ H35 hr36 hm => ?_)
      · have gl37 := Gr.refl (A := []) H29
        refine whl_R (fun (s : Int × Int) (σ : L2.St) (H : Hp) => σ = [some (.int a_n), some (.ref p1), some (.int s.1), some (.int t28), some (.int s.2)] ∧ Gr [] H29 H) (by exact wp_N hm (fun s σ' H' hr hz => hN33 s σ' H' hr hz)) ⟨rfl, gl37⟩ (fun s38 σ H39 N41 W42 m43 hW44 hr40 hm => ?_)
        unfold m_prime_powers_b2 at hm
        obtain ⟨rfl, g47⟩ := hr40
        have h25 := Ls.gA g47 nin0 h25
        have g0 := Gr.of0' g0 g47
        have gl13 := Gr.of0' gl13 g47
        have gl37 := Gr.of0' gl37 g47
        obtain ⟨c48, hm⟩ := wp_grd hm
        refine rd_T (rd_op (rd_op (rd_var rfl (rd_var rfl (rd_rI c48 (rd_c (rd_rI0 (rd_kB ?_))))))))
        refine iteB' (fun e49 => ?_) (fun e49 => ?_)
        · exact ifF e49 hm _ _ ⟨rfl, gl37⟩
        have hm := ifT e49 hm
        unfold m_prime_powers_b3 at hm
        refine ⟨N41, hW44, ?_⟩
        obtain ⟨c50, hm⟩ := wp_grd hm
        refine rd_seq (rd_asg (rd_op (rd_var rfl (rd_var rfl (rd_rI c50 (rd_gn ?_))))))
        refine rd_nx ?_
        refine rd_aug rfl (rd_c (rd_ipI ?_))
        exact hm _ _ ⟨rfl, gl37⟩
      obtain ⟨rfl, g51⟩ := hr36
      have h25 := Ls.gA g51 nin0 h25
      have g0 := Gr.of0' g0 g51
      have gl13 := Gr.of0' gl13 g51
      refine rd_drop (rd_bm (rd_var rfl ⟨(Ls.ty h25), rd_cons (rd_tup (rd_cons (rd_var rfl (rd_cons (rd_var rfl (rd_nil (mk_P (K := K) (r := rI) (s := rI) rfl rfl fun v52 H53 g54 h55 => ?_)))))))⟩))
      have h25 := Ls.g0 g54 h25
      have g0 := g0.of0' g54
      have gl13 := gl13.of0' g54
      obtain ⟨c56, hm⟩ := wp_grd hm
      refine rd_nil (rd_append h25 h55 c56 fun H57 g58 h59 => ?_)
      have g0 := Gr.loc g0 nw6 g58
      have gl13 := Gr.at1 gl13 (by simp) g58
      exact hm _ _ ⟨_, rfl, gl13, h59⟩
    obtain ⟨o62, rfl, g60, h61⟩ := hr12
    have g0 := Gr.many g0 (all1 ((.inr nw6)) all0) g60
    refine rd_ret (rd_cb (rd_cons (rd_var rfl (rd_nil (tup_of_L (K := K) (Ls.q h61) fun v63 H64 g65 h66 => ?_)))))
    have h61 := Ls.g0 g65 h61
    have g0 := g0.of0' g65
    exact hm _ _ g0 h66

abbrev s_least_exponent : Stmt := topS 14
abbrev n_least_exponent : List Str := ["start", "is_one", "exponent", "p", "k", "_"]
theorem sc_least_exponent : FnScope n_least_exponent ["start", "is_one"] (defScope s_least_exponent) := ⟨rfl, rfl, rfl, by decide +kernel, rfl, by decide +kernel, by decide +kernel⟩
def m_least_exponent_b1 (a_is_one : (Int → R Bool)) (x29 : (Int × Int)) (s52 : Int) (x58 : Int) : R (Int) :=
  grd (CDiv s52 x29.1) <| (a_is_one (s52 / x29.1)).bind fun t65 => if t65 = true then (grd (CDiv s52 x29.1) <| R.ok (s52 / x29.1)) else (R.ok s52)
def m_least_exponent_b2 (a_is_one : (Int → R Bool)) (s11 : Int) (x29 : (Int × Int)) : R (Int) :=
  (grd (rgOk x29.2) <| foldR (m_least_exponent_b1 a_is_one x29) s11 (rng 0 (x29.2).toNat)).bind fun s47 => R.ok s47
def m_least_exponent (a_start : Int) (a_is_one : (Int → R Bool)) : R Int :=
  ((noEr (m_prime_powers a_start)).bind fun t15 => foldR (m_least_exponent_b2 a_is_one) a_start t15).bind fun s4 => R.ok s4
def sp_least_exponent (K : PySem.W.Frag) (c_Field : Addr) (C : Xc) : Addr → Addr → List (Option V) → Sp := fun lf lc ws vs H Q E => ∃ (k_field : O_Field) (vk_field : V) (k_a : (List Int)) (vk_a : V) (a_start : Int), ws = [some vk_field, some vk_a] ∧ vs = [(.int a_start), .ref lf] ∧ (rO_Field K c_Field) H k_field vk_field ∧ (rT K rI) H k_a vk_a ∧ H lc = some (CodeO lc lw_lam2.qual) ∧ wp (m_least_exponent a_start (m_lam2 k_field k_a)) (fun r => ∀ H', Gr [] H H' → Q (.int r) H') (XEr C [] H E)
theorem ok_least_exponent {P : Program} {w : World} {K : PySem.W.Frag} {mg : Str → Option Value} {base : Heap} {f : Addr} {fd : FuncData} {c_fault c_zd c_mal c_refu : Addr} {c_Field : Addr} (F : Fun K "least_exponent" "least_exponent" s_least_exponent f fd) (z_range : mg "range" = none) (c_prime_powers : Cal P w K mg base CX0 2 "prime_powers" ["n"] (sp_prime_powers K)) (o_lam2 : LOk P w K mg base (CX P w) 3 lw_lam2 ["k"] ["field", "a"] (spl_lam2 K c_Field (⟨some c_fault, some c_zd, some c_mal, some c_refu, none⟩ : Xc))) : FnOkC P w K mg base (CX P w) 4 f fd ["start", "is_one"] lw_lam2 ["field", "a"] (sp_least_exponent K c_Field (⟨some c_fault, some c_zd, some c_mal, some c_refu, none⟩ : Xc)) := by
  obtain ⟨f_prime_powers, fd_prime_powers, G_prime_powers, g_prime_powers, k_prime_powers, b_prime_powers⟩ := c_prime_powers
  refine fun_okC F sc_least_exponent (fun lf lc ws vs H Q E h => ?_) (fun cdv A outer s H0 vs Q E lf lc cl ws hr T h => ?_)
  · obtain ⟨k_field, vk_field, k_a, vk_a, a_start, rfl, rfl, hk_field, hk_a, hcode, hm⟩ := h
    rfl
  · obtain ⟨k_field, vk_field, k_a, vk_a, a_start, rfl, rfl, hk_field, hk_a, hcode, hm⟩ := h
    have hm : wp (m_least_exponent a_start (m_lam2 k_field k_a)) _ _ := hm
    unfold m_least_exponent at hm
    refine ⟨_, (pss_cons (ps_set (i := 2) sc_least_exponent.nd rfl (Or.inl rfl) (pv 0)) (pss_cons (ps_for PassesOwn.leaving rfl (pi_tupK (K := K) (pe_call G_prime_powers (hr.mono (by decide)) (by rfl) g_prime_powers k_prime_powers b_prime_powers .nil pass0 (pa_cons (pv 0) pa_nil)) rfl) (pg_tup rfl (pgs_cons (pg_name (i := 3) sc_least_exponent.nd rfl (Or.inl rfl)) (pgs_cons (pg_name (i := 4) sc_least_exponent.nd rfl (Or.inl rfl)) pgs_nil))) (pss_one (ps_for PassesOwn.leaving rfl (pi_range1 (by rfl) z_range (pa_cons (pv 4) pa_nil)) (pg_name (i := 5) sc_least_exponent.nd rfl (Or.inl rfl)) (pss_one (ps_if (pt_val (pe_act (i := 1) T rfl o_lam2 (hr) (by decide) (fun σ => passAt (takes_of rfl rfl rfl rfl) σ) rfl (.inl rfl) (pa_cons (pe_op op_fdiv (pv 2) (pv 3)) pa_nil))) (pss_one (ps_set (i := 2) sc_least_exponent.nd rfl (Or.inl rfl) (pe_op op_fdiv (pv 2) (pv 3)))) pss_nil))))) (pss_one (ps_ret (pv 2))))), ?_⟩
    have g0 := Gr.refl (A := []) H0
    have h_is_one : rF lc lw_lam2.qual H0 () (.ref lf) := rF_of hcode
    refine rd_seq (rd_asg (rd_var rfl (rd_gn ?_)))
    refine rd_nx ?_
    refine seq_join (t := tFor _ _ _) (wp_bind hm) (fun (s : Int) (σ : L2.St) (H : Hp) => ∃ (o8 : Option V) (o9 : Option V) (o10 : Option V), σ = [some (.int a_start), some (.ref lf), some (.int s), o8, o9, o10] ∧ Gr [] H0 H) (fun N2 hN3 hm => ?_) (fun s4 σ H5 hr6 hm => ?_)
    · have gl7 := Gr.refl (A := []) H0
      refine rd_for (rd_it (rd_call (rd_cons (rd_var rfl (rd_nil ⟨_, rfl, wp_imp (wp_bindN hm) (fun t15 hm v18 H16 g17 h19 => ?_) (fun _ e => e)⟩)))))
      have hk_field := Imm.mono g17 hk_field
      have hk_a := Imm.mono g17 hk_a
      have h_is_one := Imm.mono g17 h_is_one
      have g0 := g0.of0' g17
      have gl7 := gl7.of0' g17
      obtain ⟨a23, ea24, vs20, hl21, hp22⟩ := id h19
      have gl28 := Gr.refl (A := []) H16
      refine ⟨_, ea24, ⟨_, hl21⟩, for_tupR (r := (rP K rI rI)) (H0 := H16) (fun (s : Int) (σ : L2.St) (H : Hp) => ∃ (o25 : Option V) (o26 : Option V) (o27 : Option V), σ = [some (.int a_start), some (.ref lf), some (.int s), o25, o26, o27] ∧ Gr [] H16 H) hp22 (by exact wp_N hm (fun s σ' H' hr hz => hN3 s σ' H' (by obtain ⟨w0, w1, w2, e, g⟩ := hr; exact ⟨w0, w1, w2, e, gl7.trans g⟩) hz)) ⟨_, _, _, rfl, gl28⟩ (fun _ _ _ hr => by obtain ⟨_, _, _, _, g⟩ := hr; exact g.tup hl21) (fun x29 v30 s11 σ H12 N14 hx31 hr13 hm => ?_)⟩
      unfold m_least_exponent_b2 at hm
      obtain ⟨o34, o35, o36, rfl, g33⟩ := hr13
      have hk_field := Imm.mono g33 hk_field
      have hk_a := Imm.mono g33 hk_a
      have h_is_one := Imm.mono g33 h_is_one
      have g0 := Gr.of0' g0 g33
      have gl28 := Gr.of0' gl28 g33
      have hx31 := Imm.mono g33 hx31
      obtain ⟨a37, x38, x39, ea43, h40, h41, h42⟩ := id hx31
      obtain rfl := h41
      obtain rfl := h42
      refine rd_gtE ea43 h40 rfl (rd_gc (rd_gn (rd_gc (rd_gn (rd_g0 ?_)))))
      refine nx_join (t := tFor _ _ _) (wp_bind hm) (fun (s : Int) (σ : L2.St) (H : Hp) => ∃ (o51 : Option V), σ = [some (.int a_start), some (.ref lf), some (.int s), some (.int x29.1), some (.int x29.2), o51] ∧ Gr [] H12 H) (fun N45 hN46 hm => ?_) (fun s47 σ H48 hr49 hm => ?_)
      · have gl50 := Gr.refl (A := []) H12
        obtain ⟨c56, hm⟩ := wp_grd hm
        have gl57 := Gr.refl (A := []) H12
        refine rd_for (rd_r1 (rd_cons (rd_var rfl (rd_nil ⟨_, rfl, c56.1, c56.2, for_rngR (lo := 0) (n := (x29.2).toNat) (fun (s : Int) (σ : L2.St) (H : Hp) => ∃ (o51 : Option V), σ = [some (.int a_start), some (.ref lf), some (.int s), some (.int x29.1), some (.int x29.2), o51] ∧ Gr [] H12 H) (by exact wp_N hm (fun s σ' H' hr hz => hN46 s σ' H' hr hz)) ⟨_, rfl, gl57⟩ (fun x58 s52 σ H53 N55 hr54 hm => ?_)⟩))))
        unfold m_least_exponent_b1 at hm
        obtain ⟨o63, rfl, g62⟩ := hr54
        have hk_field := Imm.mono g62 hk_field
        have hk_a := Imm.mono g62 hk_a
        have h_is_one := Imm.mono g62 h_is_one
        have g0 := Gr.of0' g0 g62
        have gl28 := Gr.of0' gl28 g62
        have gl57 := Gr.of0' gl57 g62
        obtain ⟨c64, hm⟩ := wp_grd hm
        refine rd_gn (rd_if (rd_B (rd_act rfl (rd_cons (rd_op (rd_var rfl (rd_var rfl (rd_rI c64 (rd_nil ⟨h_is_one, _, _, _, _, _, rfl, rfl, hk_field, hk_a, wp_imp (wp_bind hm) (fun t65 hm H66 g67 => ?_) (fun _ e => XEr.sub g0 e)⟩)))))))))
        have hk_field := Imm.mono g67 hk_field
        have hk_a := Imm.mono g67 hk_a
        have h_is_one := Imm.mono g67 h_is_one
        have g0 := g0.of0' g67
        have gl28 := gl28.of0' g67
        have gl57 := gl57.of0' g67
        refine rd_kB ?_
        refine iteB (fun e68 => ?_) (fun e68 => ?_)
        · have hm := ifT e68 (wp_iteB hm)
          obtain ⟨c69, hm⟩ := wp_grd hm
          refine rd_asg (rd_op (rd_var rfl (rd_var rfl (rd_rI c69 (rd_gn ?_)))))
          exact hm _ _ ⟨_, rfl, gl57⟩
        have hm := ifF e68 (wp_iteB hm)
        exact rd_next (hm _ _ ⟨_, rfl, gl57⟩)
      obtain ⟨o71, rfl, g70⟩ := hr49
      have hk_field := Imm.mono g70 hk_field
      have hk_a := Imm.mono g70 hk_a
      have h_is_one := Imm.mono g70 h_is_one
      have g0 := Gr.of0' g0 g70
      have gl28 := Gr.of0' gl28 g70
      exact hm _ _ ⟨_, _, _, rfl, gl28⟩
    obtain ⟨o73, o74, o75, rfl, g72⟩ := hr6
    have hk_field := Imm.mono g72 hk_field
    have hk_a := Imm.mono g72 hk_a
    have h_is_one := Imm.mono g72 h_is_one
    have g0 := Gr.of0' g0 g72
    exact rd_ret (rd_var rfl (hm _ g0))

abbrev s_order_of : Stmt := topS 45
abbrev n_order_of : List Str := ["field", "a"]
theorem sc_order_of : FnScope n_order_of ["field", "a"] (defScope s_order_of) := ⟨rfl, rfl, rfl, by decide +kernel, rfl, by decide +kernel, by decide +kernel⟩
def m_order_of (a_field : O_Field) (a_a : (List Int)) : R Int :=
  (m_check_not_zero a_field a_a).bind fun t1 => (m_least_exponent (a_field.2.2.2.1 - (1 : Int)) (m_lam2 a_field a_a)).bind fun t11 => R.ok t11
def sp_order_of (K : PySem.W.Frag) (c_Field : Addr) (C : Xc) (TT : List Addr) : Sp := fun vs H Q E => ∃ (a_field : O_Field) (v_field : V) (a_a : (List Int)) (v_a : V), vs = [v_field, v_a] ∧ (rO_Field K c_Field) H a_field v_field ∧ (rT K rI) H a_a v_a ∧ TabsA TT H ∧ wp (m_order_of a_field a_a) (fun r => ∀ H', Gr [] H H' → Q (.int r) H') (XEr C [] H E)
theorem ok_order_of {P : Program} {w : World} {K : PySem.W.Frag} {mg : Str → Option Value} {base : Heap} {f : Addr} {fd : FuncData} {c_fault c_zd c_mal c_refu : Addr} {TT : List Addr} {cT PT : Addr} {c_Field : Addr} (F : FunT K "order_of" "order_of" s_order_of f fd cT PT) (TB : LamX.TabB base mg cT PT) (hPT : PT ∈ TT) (kl_Field : Cls K c_Field) (na_Field_q : NoAttr K c_Field "q") (c_check_not_zero : Cal P w K mg base (CX P w) 2 "check_not_zero" ["field", "a"] (sp_check_not_zero K c_Field (⟨some c_fault, some c_zd, some c_mal, some c_refu, none⟩ : Xc))) (c_least_exponent : CalC P w K mg base (CX P w) 4 "least_exponent" ["start", "is_one"] lw_lam2 ["field", "a"] (sp_least_exponent K c_Field (⟨some c_fault, some c_zd, some c_mal, some c_refu, none⟩ : Xc))) : FnOk P w K mg base (CX P w) 5 f fd ["field", "a"] (sp_order_of K c_Field (⟨some c_fault, some c_zd, some c_mal, some c_refu, none⟩ : Xc) TT) := by
  obtain ⟨f_check_not_zero, fd_check_not_zero, G_check_not_zero, g_check_not_zero, k_check_not_zero, b_check_not_zero⟩ := c_check_not_zero
  obtain ⟨f_least_exponent, fd_least_exponent, G_least_exponent, g_least_exponent, k_least_exponent, b_least_exponent⟩ := c_least_exponent
  refine funT_okX F sc_order_of (fun vs H Q E h => ?_) (fun A outer s H0 vs Q E hr h => ?_)
  · obtain ⟨a_field, v_field, a_a, v_a, rfl, h_field, h_a, hTT, hm⟩ := h
    rfl
  · obtain ⟨a_field, v_field, a_a, v_a, rfl, h_field, h_a, hTT, hm⟩ := h
    have hm : wp (m_order_of a_field a_a) _ _ := hm
    unfold m_order_of at hm
    refine ⟨_, (pss_cons (ps_expr (pe_callS G_check_not_zero (hr.mono (by decide)) (by rfl) g_check_not_zero k_check_not_zero b_check_not_zero (fun σ => passAt (takes_of rfl rfl rfl rfl) σ) (pa_cons (pv 0) (pa_cons (pv 1) pa_nil)))) (pss_one (ps_ret (pe_callL (js := [0, 1]) G_least_exponent (hr.mono (by decide)) (by rfl) g_least_exponent k_least_exponent b_least_exponent (fun σ => passAt (takes_of rfl rfl rfl rfl) σ) (fun ok => Caps.made ok (ndef_free ndb_lam2) (ndef_fr ndb_lam2) rfl) (pl_cons (pe_op op_sub (pe_fldK (K := K) rfl (pv 0) rfl) pe_int) (pl_nil (L := lw_lam2) TB rfl rfl (by decide +kernel) rfl (ndef_free ndb_lam2))))))), ?_⟩
    have g0 := Gr.refl (A := []) H0
    refine rd_seq (rd_drop (rd_callS (rd_cons (rd_var rfl (rd_cons (rd_var rfl (rd_nil ⟨_, _, _, _, rfl, h_field, h_a, wp_imp (wp_bind hm) (fun t1 hm H2 g3 => ?_) (fun _ e => XEr.sub g0 e)⟩)))))))
    have h_field := Imm.mono g3 h_field
    have h_a := Imm.mono g3 h_a
    have g0 := g0.of0' g3
    refine rd_nx ?_
    refine rd_ret (rd_callL (rd_lcons (rd_op (rd_fld (rd_var rfl (fld_Field_q h_field kl_Field na_Field_q fun v4 h5 => ?_))))))
    obtain rfl := h5
    refine rd_c (rd_rI0 (rd_lnil (hTT.gr g0 _ hPT) fun lf6 lc7 H8 g9 hc10 => ?_))
    have h_field := Imm.mono g9 h_field
    have h_a := Imm.mono g9 h_a
    have g0 := g0.of0' g9
    refine ⟨_, _, _, _, _, rfl, rfl, h_field, h_a, hc10, wp_imp (wp_bind hm) (fun t11 hm H12 g13 => ?_) (fun _ e => XEr.sub g0 e)⟩
    have h_field := Imm.mono g13 h_field
    have h_a := Imm.mono g13 h_a
    have g0 := g0.of0' g13
    exact hm _ g0

abbrev s_prime_divisors : Stmt := topS 11
abbrev n_prime_divisors : List Str := ["n", "p", "_"]
theorem sc_prime_divisors : FnScope n_prime_divisors ["n"] (defScope s_prime_divisors) := ⟨rfl, rfl, rfl, by decide +kernel, rfl, by decide +kernel, by decide +kernel⟩
def m_prime_divisors_b1 (s17 : List Int) (x18 : (Int × Int)) : R (List Int) :=
  grd (lenLt s17) <| R.ok (s17 ++ [x18.1])
def m_prime_divisors (a_n : Int) : R (List Int) :=
  (m_prime_powers a_n).bind fun t1 => (foldR m_prime_divisors_b1 ([]) t1).bind fun s24 => R.ok s24
def sp_prime_divisors (K : PySem.W.Frag) : Sp := fun vs H Q _ => ∃ (a_n : Int), vs = [(.int a_n)] ∧ wp (m_prime_divisors a_n) (fun r => ∀ v H', Gr [] H H' → (rT K rI) H' r v → Q v H') (fun _ => False)
theorem ok_prime_divisors {P : Program} {w : World} {K : PySem.W.Frag} {mg : Str → Option Value} {base : Heap} {f : Addr} {fd : FuncData} (F : Fun K "prime_divisors" "prime_divisors" s_prime_divisors f fd) (z_tuple : mg "tuple" = none) (c_prime_powers : Cal P w K mg base CX0 2 "prime_powers" ["n"] (sp_prime_powers K)) : FnOk P w K mg base CX0 3 f fd ["n"] (sp_prime_divisors K) := by
  obtain ⟨f_prime_powers, fd_prime_powers, G_prime_powers, g_prime_powers, k_prime_powers, b_prime_powers⟩ := c_prime_powers
  refine F.ok sc_prime_divisors (fun vs H Q E h => ?_) (fun cdv A outer s H0 vs Q E hr h => ?_)
  · obtain ⟨a_n, rfl, hm⟩ := h
    rfl
  · obtain ⟨a_n, rfl, hm⟩ := h
    have hm : wp (m_prime_divisors a_n) _ _ := hm
    unfold m_prime_divisors at hm
    refine ⟨_, (pss_one (ps_ret (pe_callTy (tupleK (K := K) rfl) (by rfl) z_tuple (by decide +kernel) (pa_cons (pe_lc (own := [("p", 1), ("_", 2)]) (g := (gTup K 2 (gCons (gName 1) (gCons (gName 2) gNil)))) (tt := tYes) rfl sc_prime_divisors.nd (pi_tupK (K := K) (pe_call G_prime_powers (hr.mono (by decide)) (by rfl) g_prime_powers k_prime_powers b_prime_powers .nil pass0 (pa_cons (pv 0) pa_nil)) rfl) (blkOk_by (own := [("p", 1), ("_", 2)]) (N := n_prime_divisors) (sc := defScope s_prime_divisors) (by decide +kernel)) (fun _ _ _ _ _ => pg_tup rfl (pgs_cons (pg_name (i := 1) sc_prime_divisors.nd rfl (Or.inl rfl) (Or.inr rfl)) (pgs_cons (pg_name (i := 2) sc_prime_divisors.nd rfl (Or.inl rfl) (Or.inr rfl)) pgs_nil))) (fun _ _ _ _ _ => pts_nil) (fun _ _ _ _ _ => (pv 1))) pa_nil)))), ?_⟩
    have g0 := Gr.refl (A := []) H0
    refine rd_ret (rd_cb (rd_cons (rd_lc (rd_it (rd_call (rd_cons (rd_var rfl (rd_nil ⟨_, rfl, wp_imp (wp_bind hm) (fun t1 hm v4 H2 g3 h5 => ?_) (fun _ e => e)⟩))))))))
    have g0 := g0.of0' g3
    obtain ⟨a9, ea10, vs6, hl7, hp8⟩ := id h5
    refine ⟨_, ea10, ⟨_, hl7⟩, fun p11 n12 => ?_⟩
    have nw13 := Gr.free g0 n12
    refine lc_tup (r := (rP K rI rI)) (H1 := H2) (fun (s : List Int) (H : Hp) => Gr [] H2 H ∧ Ls rI H p11 s) hp8 (wp_bind hm) ⟨Gr.new n12, ⟨[], upd_same, .nil⟩⟩ (fun _ _ hr => by obtain ⟨g, _⟩ := hr; exact g.tup hl7) (fun x18 v19 s17 H21 N22 hx20 hr23 hm => ?_) (fun s24 H25 hr26 hm => ?_)
    · unfold m_prime_divisors_b1 at hm
      obtain ⟨g27, h28⟩ := hr23
      have g0 := Gr.of0' g0 g27
      have gl29 := g27
      have hx20 := Imm.mono g27 hx20
      obtain ⟨a30, x31, x32, ea36, h33, h34, h35⟩ := id hx20
      obtain rfl := h34
      obtain rfl := h35
      obtain ⟨c37, hm⟩ := wp_grd hm
      refine rd_gtE ea36 h33 rfl (rd_gc (rd_gn (rd_gc (rd_gn (rd_g0 ⟨rfl, rd_yes (iteT (rd_var rfl (lc_add h28 rfl c37 fun H38 g39 h40 => ?_)))⟩)))))
      have g0 := Gr.loc g0 nw13 g39
      have gl29 := Gr.loc gl29 n12 g39
      exact hm _ ⟨gl29, h40⟩
    obtain ⟨g41, h42⟩ := hr26
    have g0 := Gr.of0' g0 g41
    refine rd_nil (tup_of_L (K := K) (Ls.q h42) fun v43 H44 g45 h46 => ?_)
    have g0 := g0.of0' g45
    exact hm _ _ g0 h46

abbrev s_order_paper : Stmt := topS 47
abbrev n_order_paper : List Str := ["field", "a", "order"]
theorem sc_order_paper : FnScope n_order_paper ["field", "a"] (defScope s_order_paper) := ⟨rfl, rfl, rfl, by decide +kernel, rfl, by decide +kernel, by decide +kernel⟩
def m_order_paper (a_field : O_Field) (a_a : (List Int)) : R (PySem.Str × Int × (List Int)) :=
  (noEr (m_Field_zero a_field)).bind fun t1 => if (decide (a_a = t1)) = true then (R.er .zd) else ((m_order_of a_field a_a).bind fun t7 => (noEr (m_prime_divisors t7)).bind fun t10 => R.ok (("order" : PySem.Str), t7, t10))
def sp_order_paper (K : PySem.W.Frag) (c_Field : Addr) (C : Xc) (TT : List Addr) : Sp := fun vs H Q E => ∃ (a_field : O_Field) (v_field : V) (a_a : (List Int)) (v_a : V), vs = [v_field, v_a] ∧ (rO_Field K c_Field) H a_field v_field ∧ (rT K rI) H a_a v_a ∧ TabsA TT H ∧ wp (m_order_paper a_field a_a) (fun r => ∀ v H', Gr [] H H' → (rP3 K rS rI (rT K rI)) H' r v → Q v H') (XEr C [] H E)
theorem ok_order_paper {P : Program} {w : World} {K : PySem.W.Frag} {mg : Str → Option Value} {base : Heap} {f : Addr} {fd : FuncData} {c_fault c_zd c_mal c_refu : Addr} {TT : List Addr} {c_Field : Addr} (F : Fun K "order_paper" "order_paper" s_order_paper f fd) (kl_Field : Cls K c_Field) (Xk_zd : Xk K mg "ZeroDivisor" c_zd) (c_Field_zero : CalM P w K mg base CX0 1 c_Field "zero" ["self"] (sp_Field_zero K c_Field)) (c_order_of : Cal P w K mg base (CX P w) 5 "order_of" ["field", "a"] (sp_order_of K c_Field (⟨some c_fault, some c_zd, some c_mal, some c_refu, none⟩ : Xc) TT)) (c_prime_divisors : Cal P w K mg base CX0 3 "prime_divisors" ["n"] (sp_prime_divisors K)) : FnOk P w K mg base (CX P w) 6 f fd ["field", "a"] (sp_order_paper K c_Field (⟨some c_fault, some c_zd, some c_mal, some c_refu, none⟩ : Xc) TT) := by
  obtain ⟨f_Field_zero, fd_Field_zero, G_Field_zero, M_Field_zero, b_Field_zero⟩ := c_Field_zero
  obtain ⟨f_order_of, fd_order_of, G_order_of, g_order_of, k_order_of, b_order_of⟩ := c_order_of
  obtain ⟨f_prime_divisors, fd_prime_divisors, G_prime_divisors, g_prime_divisors, k_prime_divisors, b_prime_divisors⟩ := c_prime_divisors
  refine F.okX sc_order_paper (fun vs H Q E h => ?_) (fun cdv A outer s H0 vs Q E hr h => ?_)
  · obtain ⟨a_field, v_field, a_a, v_a, rfl, h_field, h_a, hTT, hm⟩ := h
    rfl
  · obtain ⟨a_field, v_field, a_a, v_a, rfl, h_field, h_a, hTT, hm⟩ := h
    have hm : wp (m_order_paper a_field a_a) _ _ := hm
    unfold m_order_paper at hm
    refine ⟨_, (pss_cons (ps_if (pt_cmpR (eqDK (K := K) hr.units rfl) (pv 1) (pe_methS0 (pv 0) kl_Field M_Field_zero G_Field_zero (hr.mono (by decide)) b_Field_zero passN) (nomark _)) (pss_one (ps_raise rfl (takes_of rfl rfl rfl rfl) (pmk_own PySem.F.excBase_ValueError Xk_zd.x Xk_zd.g Xk_zd.k (raises_own Xk_zd.b Xk_zd.t) (by rfl)))) pss_nil) (pss_cons (ps_set (i := 2) sc_order_paper.nd rfl (Or.inl rfl) (pe_callS G_order_of (hr.mono (by decide)) (by rfl) g_order_of k_order_of b_order_of (fun σ => passAt (takes_of rfl rfl rfl rfl) σ) (pa_cons (pv 0) (pa_cons (pv 1) pa_nil)))) (pss_one (ps_ret (pe_tup (pa_cons pe_str (pa_cons (pv 2) (pa_cons (pe_call G_prime_divisors (hr.mono (by decide)) (by rfl) g_prime_divisors k_prime_divisors b_prime_divisors .nil pass0 (pa_cons (pv 2) pa_nil)) pa_nil)))))))), ?_⟩
    have g0 := Gr.refl (A := []) H0
    refine rd_seq (rd_if (rd_T (rd_op (rd_var rfl (rd_meth (rd_var rfl (meth_Field h_field (by decide +kernel) (rd_nil ⟨_, _, rfl, h_field, wp_imp (wp_bindN hm) (fun t1 hm v4 H2 g3 h5 => ?_) (fun _ e => e)⟩))))))))
    have h_field := Imm.mono g3 h_field
    have h_a := Imm.mono g3 h_a
    have g0 := g0.of0' g3
    refine eq_D (DRep.tup (DRep.int K)) h_a h5 (rd_kB ?_)
    refine iteB (fun e6 => ?_) (fun e6 => ?_)
    · have hm := ifT e6 (wp_iteB hm)
      exact xe0_at hm rfl g0
    have hm := ifF e6 (wp_iteB hm)
    refine rd_next (rd_nx ?_)
    refine rd_seq (rd_asg (rd_callS (rd_cons (rd_var rfl (rd_cons (rd_var rfl (rd_nil ⟨_, _, _, _, rfl, h_field, h_a, (hTT.gr g0), wp_imp (wp_bind hm) (fun t7 hm H8 g9 => ?_) (fun _ e => XEr.sub g0 e)⟩)))))))
    have h_field := Imm.mono g9 h_field
    have h_a := Imm.mono g9 h_a
    have g0 := g0.of0' g9
    refine rd_gn ?_
    refine rd_nx ?_
    refine rd_ret (rd_tup (rd_cons (rd_c (rd_cons (rd_var rfl (rd_cons (rd_call (rd_cons (rd_var rfl (rd_nil ⟨_, rfl, wp_imp (wp_bindN hm) (fun t10 hm v13 H11 g12 h14 => ?_) (fun _ e => e)⟩))))))))))
    have g0 := g0.of0' g12
    refine rd_nil (mk_P3 (K := K) (r := rS) (s := rI) (t := (rT K rI)) rfl rfl h14 fun v15 H16 g17 h18 => ?_)
    have g0 := g0.of0' g17
    exact hm _ _ g0 h18

abbrev s__law_primes : Stmt := topS 59
abbrev n__law_primes : List Str := ["m", "found", "k", "prime", "j"]
theorem sc__law_primes : FnScope n__law_primes ["m"] (defScope s__law_primes) := ⟨rfl, rfl, rfl, by decide +kernel, rfl, by decide +kernel, by decide +kernel⟩
def m__law_primes_b1 (x23 : Int) (s42 : Bool) (x48 : Int) : R (Bool) :=
  grd (0 < x48) <| if (decide ((x23 % x48) = (0 : Int))) = true then (R.ok false) else (R.ok s42)
def m__law_primes_b2 (a_m : Int) (s17 : (List Int)) (x23 : Int) : R ((List Int)) :=
  grd (0 < x23) <| if (decide ((a_m % x23) = (0 : Int))) = true then ((grd (rg2Ok (2 : Int) x23) <| foldR (m__law_primes_b1 x23) true (rng (2 : Int) (x23 - (2 : Int)).toNat)).bind fun s37 => if s37 = true then (grd (lenLt s17) <| R.ok (s17 ++ [x23])) else (R.ok s17)) else (R.ok s17)
def m__law_primes (a_m : Int) : R (List Int) :=
  (grd (rg2Ok (2 : Int) (a_m + (1 : Int))) <| foldR (m__law_primes_b2 a_m) ([] : List Int) (rng (2 : Int) ((a_m + (1 : Int)) - (2 : Int)).toNat)).bind fun s10 => R.ok s10
def sp__law_primes (K : PySem.W.Frag) : Sp := fun vs H Q _ => ∃ (a_m : Int), vs = [(.int a_m)] ∧ wp (m__law_primes a_m) (fun r => ∀ v H', Gr [] H H' → (rT K rI) H' r v → Q v H') (fun _ => False)
theorem ok__law_primes {P : Program} {w : World} {K : PySem.W.Frag} {mg : Str → Option Value} {base : Heap} {f : Addr} {fd : FuncData} (F : Fun K "_law_primes" "_law_primes" s__law_primes f fd) (z_range : mg "range" = none) (z_tuple : mg "tuple" = none) : FnOk P w K mg base CX0 1 f fd ["m"] (sp__law_primes K) := by
  refine F.ok sc__law_primes (fun vs H Q E h => ?_) (fun cdv A outer s H0 vs Q E hr h => ?_)
  · obtain ⟨a_m, rfl, hm⟩ := h
    rfl
  · obtain ⟨a_m, rfl, hm⟩ := h
    have hm : wp (m__law_primes a_m) _ _ := hm
    unfold m__law_primes at hm
    refine ⟨_, (pss_cons (ps_set (i := 1) sc__law_primes.nd rfl (Or.inl rfl) (pe_lst pa_nil)) (pss_cons (ps_for PassesOwn.never rfl (pi_range2 (by rfl) z_range (pa_cons pe_int (pa_cons (pe_op op_add (pv 0) pe_int) pa_nil))) (pg_name (i := 2) sc__law_primes.nd rfl (Or.inl rfl)) (pss_one (ps_if (pt_cmpR op_eqI (pe_op op_mod (pv 0) (pv 2)) pe_int (nomark _)) (pss_cons (ps_set (i := 3) sc__law_primes.nd rfl (Or.inl rfl) pe_bl) (pss_cons (ps_for PassesOwn.never rfl (pi_range2 (by rfl) z_range (pa_cons pe_int (pa_cons (pv 2) pa_nil))) (pg_name (i := 4) sc__law_primes.nd rfl (Or.inl rfl)) (pss_one (ps_if (pt_cmpR op_eqI (pe_op op_mod (pv 2) (pv 4)) pe_int (nomark _)) (pss_one (ps_set (i := 3) sc__law_primes.nd rfl (Or.inl rfl) pe_bl)) pss_nil))) (pss_one (ps_if (pt_val (pv 3)) (pss_one (ps_expr (pe_bm PySem.F.plainAttrs_list PySem.F.slot_list_append PySem.F.type_list_append mt_append (pv 1) (pa_cons (pv 2) pa_nil)))) pss_nil)))) pss_nil))) (pss_one (ps_ret (pe_callTy (tupleK (K := K) rfl) (by rfl) z_tuple (by decide +kernel) (pa_cons (pv 1) pa_nil)))))), ?_⟩
    have g0 := Gr.refl (A := []) H0
    refine rd_seq (rd_asg (rd_lst (rd_nil (mk_L (r := rI) (xs := ([] : List Int)) .nil (by show 0 ≤ sizeLine; decide) fun p1 H2 n3 g4 h5 => ?_))))
    have nw6 := Gr.free g0 n3
    have g0 := g0.of0' g4
    refine rd_gn ?_
    refine rd_nx ?_
    refine seq_join (t := tFor _ _ _) (wp_bind hm) (fun (s : (List Int)) (σ : L2.St) (H : Hp) => ∃ (o14 : Option V) (o15 : Option V) (o16 : Option V), σ = [some (.int a_m), some (.ref p1), o14, o15, o16] ∧ Gr [p1] H2 H ∧ Ls rI H p1 s) (fun N8 hN9 hm => ?_) (fun s10 σ H11 hr12 hm => ?_)
    · have gl13 := Gr.refl (A := [p1]) H2
      obtain ⟨c21, hm⟩ := wp_grd hm
      have gl22 := Gr.refl (A := [p1]) H2
      refine rd_for (rd_r2 (rd_cons (rd_c (rd_cons (rd_op (rd_var rfl (rd_c (rd_rI0 (rd_nil ⟨_, _, rfl, c21, for_rngR (lo := (2 : Int)) (n := ((a_m + (1 : Int)) - (2 : Int)).toNat) (fun (s : (List Int)) (σ : L2.St) (H : Hp) => ∃ (o14 : Option V) (o15 : Option V) (o16 : Option V), σ = [some (.int a_m), some (.ref p1), o14, o15, o16] ∧ Gr [p1] H2 H ∧ Ls rI H p1 s) (by exact wp_N hm (fun s σ' H' hr hz => hN9 s σ' H' hr hz)) ⟨_, _, _, rfl, gl22, h5⟩ (fun x23 s17 σ H18 N20 hr19 hm => ?_)⟩)))))))))
      unfold m__law_primes_b2 at hm
      obtain ⟨o29, o30, o31, rfl, g27, h28⟩ := hr19
      have g0 := Gr.many g0 (all1 ((.inr nw6)) all0) g27
      have gl22 := Gr.many gl22 (all1 ((.inl (by simp))) all0) g27
      obtain ⟨c32, hm⟩ := wp_grd hm
      refine rd_gn (rd_if (rd_T (rd_op (rd_op (rd_var rfl (rd_var rfl (rd_rI c32 (rd_c (rd_rI0 (rd_kB ?_))))))))))
      refine iteB (fun e33 => ?_) (fun e33 => ?_)
      · have hm := ifT e33 (wp_iteB hm)
        refine rd_seq (rd_asg (rd_c (rd_gn ?_)))
        refine rd_nx ?_
        refine seq_join (t := tFor _ _ _) (wp_bind hm) (fun (s : Bool) (σ : L2.St) (H : Hp) => ∃ (o41 : Option V), σ = [some (.int a_m), some (.ref p1), some (.int x23), some (.bl s), o41] ∧ Gr [] H18 H) (fun N35 hN36 hm => ?_) (fun s37 σ H38 hr39 hm => ?_)
        · have gl40 := Gr.refl (A := []) H18
          obtain ⟨c46, hm⟩ := wp_grd hm
          have gl47 := Gr.refl (A := []) H18
          refine rd_for (rd_r2 (rd_cons (rd_c (rd_cons (rd_var rfl (rd_nil ⟨_, _, rfl, c46, for_rngR (lo := (2 : Int)) (n := (x23 - (2 : Int)).toNat) (fun (s : Bool) (σ : L2.St) (H : Hp) => ∃ (o41 : Option V), σ = [some (.int a_m), some (.ref p1), some (.int x23), some (.bl s), o41] ∧ Gr [] H18 H) (by exact wp_N hm (fun s σ' H' hr hz => hN36 s σ' H' hr hz)) ⟨_, rfl, gl47⟩ (fun x48 s42 σ H43 N45 hr44 hm => ?_)⟩))))))
          unfold m__law_primes_b1 at hm
          obtain ⟨o53, rfl, g52⟩ := hr44
          have h28 := Ls.gA g52 nin0 h28
          have g0 := Gr.of0' g0 g52
          have gl22 := Gr.of0' gl22 g52
          have gl47 := Gr.of0' gl47 g52
          obtain ⟨c54, hm⟩ := wp_grd hm
          refine rd_gn (rd_if (rd_T (rd_op (rd_op (rd_var rfl (rd_var rfl (rd_rI c54 (rd_c (rd_rI0 (rd_kB ?_))))))))))
          refine iteB (fun e55 => ?_) (fun e55 => ?_)
          · have hm := ifT e55 (wp_iteB hm)
            refine rd_asg (rd_c (rd_gn ?_))
            exact hm _ _ ⟨_, rfl, gl47⟩
          have hm := ifF e55 (wp_iteB hm)
          exact rd_next (hm _ _ ⟨_, rfl, gl47⟩)
        obtain ⟨o57, rfl, g56⟩ := hr39
        have h28 := Ls.gA g56 nin0 h28
        have g0 := Gr.of0' g0 g56
        have gl22 := Gr.of0' gl22 g56
        refine rd_if (rd_B (rd_var rfl (rd_kB ?_)))
        refine iteB (fun e58 => ?_) (fun e58 => ?_)
        · have hm := ifT e58 (wp_iteB hm)
          obtain ⟨c59, hm⟩ := wp_grd hm
          refine rd_drop (rd_bm (rd_var rfl ⟨(Ls.ty h28), rd_cons (rd_var rfl (rd_nil (rd_append h28 rfl c59 fun H60 g61 h62 => ?_)))⟩))
          have g0 := Gr.loc g0 nw6 g61
          have gl22 := Gr.at1 gl22 (by simp) g61
          exact hm _ _ ⟨_, _, _, rfl, gl22, h62⟩
        have hm := ifF e58 (wp_iteB hm)
        exact rd_next (hm _ _ ⟨_, _, _, rfl, gl22, h28⟩)
      have hm := ifF e33 (wp_iteB hm)
      exact rd_next (hm _ _ ⟨_, _, _, rfl, gl22, h28⟩)
    obtain ⟨o65, o66, o67, rfl, g63, h64⟩ := hr12
    have g0 := Gr.many g0 (all1 ((.inr nw6)) all0) g63
    refine rd_ret (rd_cb (rd_cons (rd_var rfl (rd_nil (tup_of_L (K := K) (Ls.q h64) fun v68 H69 g70 h71 => ?_)))))
    have h64 := Ls.g0 g70 h64
    have g0 := g0.of0' g70
    exact hm _ _ g0 h71

abbrev s_is_tuple_of : Stmt := topS 41
abbrev n_is_tuple_of : List Str := ["value", "length"]
theorem sc_is_tuple_of : FnScope n_is_tuple_of ["value", "length"] (defScope s_is_tuple_of) := ⟨rfl, rfl, rfl, by decide +kernel, rfl, by decide +kernel, by decide +kernel⟩
def m_is_tuple_of (a_value : PySem.PyData) (a_length : Int) : R Bool :=
  (andR (R.ok (DatM.isD "tuple" a_value)) ((DatM.unTD a_value).bind fun t5 => R.ok (decide (((t5).length : Int) = a_length)))).bind fun t7 => R.ok t7
def sp_is_tuple_of (K : PySem.W.Frag) : Sp := fun vs H Q _ => ∃ (a_value : PySem.PyData) (v_value : V) (a_length : Int), vs = [v_value, (.int a_length)] ∧ (DatM.rD K) H a_value v_value ∧ wp (m_is_tuple_of a_value a_length) (fun r => ∀ H', Gr [] H H' → Q (.bl r) H') (fun _ => False)
theorem ok_is_tuple_of {P : Program} {w : World} {K : PySem.W.Frag} {mg : Str → Option Value} {base : Heap} {f : Addr} {fd : FuncData} (F : Fun K "is_tuple_of" "is_tuple_of" s_is_tuple_of f fd) (z_isinstance : mg "isinstance" = none) (z_tuple : mg "tuple" = none) (z_len : mg "len" = none) : FnOk P w K mg base CX0 1 f fd ["value", "length"] (sp_is_tuple_of K) := by
  refine F.ok sc_is_tuple_of (fun vs H Q E h => ?_) (fun cdv A outer s H0 vs Q E hr h => ?_)
  · obtain ⟨a_value, v_value, a_length, rfl, h_value, hm⟩ := h
    rfl
  · obtain ⟨a_value, v_value, a_length, rfl, h_value, hm⟩ := h
    have hm : wp (m_is_tuple_of a_value a_length) _ _ := hm
    unfold m_is_tuple_of at hm
    refine ⟨_, (pss_one (ps_ret (pe_and (pe_callB (isiK (K := K) rfl) (by rfl) z_isinstance (by decide +kernel) (pa_cons (pv 0) (pa_cons (pe_bltn (by rfl) z_tuple (by decide +kernel) (show L2.RelV (.ty "tuple") (.type "tuple") from rfl)) pa_nil))) (pe_one (pe_cmpR op_eqI (pe_callB (lenK (K := K) rfl) (by rfl) z_len PySem.boot_len (pa_cons (pv 0) pa_nil)) (pv 1) (nomark _)))))), ?_⟩
    have g0 := Gr.refl (A := []) H0
    refine rd_ret ((ev_andV (fun Q hm => by
        have gb1 := Gr.refl (A := []) H0
        exact rd_cb (rd_cons (rd_var rfl (rd_cons (rd_c (rd_nil (DatM.isi_D (K := K) (T := "tuple") (by decide) h_value (hm _ _ gb1 rfl)))))))) (fun H2 g3 Q hm => by
        have h_value := Imm.mono g3 h_value
        have g0 := g0.of0' g3
        have gb4 := Gr.refl (A := []) H2
        refine rd_op (rd_cb (rd_cons (rd_var rfl (rd_nil ?_))))
        obtain ⟨t5, h6, hm⟩ := DatM.un_R (K := K) DatM.uTD h_value (wp_bind hm)
        exact (len_T h6 (rd_var rfl (rd_rI0 (hm _ _ gb4 rfl)))))) _ (wp_imp (wp_bind hm) (fun t7 hm v10 H8 g9 h11 => ?_) (fun _ e => e)))
    obtain rfl := h11
    have h_value := Imm.mono g9 h_value
    have g0 := g0.of0' g9
    exact hm _ g0

abbrev s_is_paper : Stmt := topS 40
abbrev n_is_paper : List Str := ["value", "word", "length"]
theorem sc_is_paper : FnScope n_is_paper ["value", "word", "length"] (defScope s_is_paper) := ⟨rfl, rfl, rfl, by decide +kernel, rfl, by decide +kernel, by decide +kernel⟩
def m_is_paper (a_value : PySem.PyData) (a_word : PySem.Str) (a_length : Int) : R Bool :=
  (andR ((m_is_tuple_of a_value a_length).bind fun t2 => R.ok t2) ((DatM.unTD a_value).bind fun t8 => (getL t8 (0 : Int)).bind fun t10 => grd (DatM.shOk t10 (PyData.str a_word)) <| R.ok (PyData.eqv t10 (PyData.str a_word)))).bind fun t15 => R.ok t15
def sp_is_paper (K : PySem.W.Frag) : Sp := fun vs H Q _ => ∃ (a_value : PySem.PyData) (v_value : V) (a_word : PySem.Str) (a_length : Int), vs = [v_value, (.str a_word), (.int a_length)] ∧ (DatM.rD K) H a_value v_value ∧ wp (m_is_paper a_value a_word a_length) (fun r => ∀ H', Gr [] H H' → Q (.bl r) H') (fun _ => False)
theorem ok_is_paper {P : Program} {w : World} {K : PySem.W.Frag} {mg : Str → Option Value} {base : Heap} {f : Addr} {fd : FuncData} (F : Fun K "is_paper" "is_paper" s_is_paper f fd) (c_is_tuple_of : Cal P w K mg base CX0 1 "is_tuple_of" ["value", "length"] (sp_is_tuple_of K)) : FnOk P w K mg base CX0 2 f fd ["value", "word", "length"] (sp_is_paper K) := by
  obtain ⟨f_is_tuple_of, fd_is_tuple_of, G_is_tuple_of, g_is_tuple_of, k_is_tuple_of, b_is_tuple_of⟩ := c_is_tuple_of
  refine F.ok sc_is_paper (fun vs H Q E h => ?_) (fun cdv A outer s H0 vs Q E hr h => ?_)
  · obtain ⟨a_value, v_value, a_word, a_length, rfl, h_value, hm⟩ := h
    rfl
  · obtain ⟨a_value, v_value, a_word, a_length, rfl, h_value, hm⟩ := h
    have hm : wp (m_is_paper a_value a_word a_length) _ _ := hm
    unfold m_is_paper at hm
    refine ⟨_, (pss_one (ps_ret (pe_and (pe_call G_is_tuple_of (hr.mono (by decide)) (by rfl) g_is_tuple_of k_is_tuple_of b_is_tuple_of .nil pass0 (pa_cons (pv 0) (pa_cons (pv 2) pa_nil))) (pe_one (pe_cmpR (eqDK (K := K) hr.units rfl) (pe_ix (ix_tupK (K := K) rfl) (pv 0) pe_int (fun _ _ => rfl)) (pv 1) (nomark _)))))), ?_⟩
    have g0 := Gr.refl (A := []) H0
    refine rd_ret ((ev_andV (fun Q hm => by
        have gb1 := Gr.refl (A := []) H0
        refine rd_call (rd_cons (rd_var rfl (rd_cons (rd_var rfl (rd_nil ⟨_, _, _, rfl, h_value, wp_imp (wp_bind hm) (fun t2 hm H3 g4 => ?_) (fun _ e => e)⟩)))))
        have h_value := Imm.mono g4 h_value
        have g0 := g0.of0' g4
        have gb1 := gb1.of0' g4
        exact hm _ _ gb1 rfl) (fun H5 g6 Q hm => by
        have h_value := Imm.mono g6 h_value
        have g0 := g0.of0' g6
        have gb7 := Gr.refl (A := []) H5
        refine rd_op (rd_op (rd_var rfl ?_))
        obtain ⟨t8, h9, hm⟩ := DatM.un_R (K := K) DatM.uTD h_value (wp_bind hm)
        refine rd_c (ix_T h9 (wp_bind hm) fun t10 v11 h12 hm => ?_)
        have h13 := (show DatM.rD K H5 (PyData.str a_word) (.str a_word) from (DatM.d_S (rfl : rS H5 a_word (.str a_word))))
        obtain ⟨c14, hm⟩ := wp_grd hm
        exact rd_var rfl (DatM.eq_DD (K := K) c14 h12 h13 (hm _ _ gb7 rfl)))) _ (wp_imp (wp_bind hm) (fun t15 hm v18 H16 g17 h19 => ?_) (fun _ e => e)))
    obtain rfl := h19
    have h_value := Imm.mono g17 h_value
    have g0 := g0.of0' g17
    exact hm _ g0

abbrev s_is_integer_2 : Stmt := topS 7
abbrev n_is_integer_2 : List Str := ["value"]
theorem sc_is_integer_2 : FnScope n_is_integer_2 ["value"] (defScope s_is_integer_2) := ⟨rfl, rfl, rfl, by decide +kernel, rfl, by decide +kernel, by decide +kernel⟩
def m_is_integer_2 (a_value : PySem.PyData) : R Bool :=
  (andR (R.ok (DatM.isD "int" a_value)) (R.ok (!(DatM.isD "bool" a_value)))).bind fun t5 => R.ok t5
def sp_is_integer_2 (K : PySem.W.Frag) : Sp := fun vs H Q _ => ∃ (a_value : PySem.PyData) (v_value : V), vs = [v_value] ∧ (DatM.rD K) H a_value v_value ∧ wp (m_is_integer_2 a_value) (fun r => ∀ H', Gr [] H H' → Q (.bl r) H') (fun _ => False)
theorem ok_is_integer_2 {P : Program} {w : World} {K : PySem.W.Frag} {mg : Str → Option Value} {base : Heap} {f : Addr} {fd : FuncData} (F : Fun K "is_integer" "is_integer" s_is_integer_2 f fd) (z_isinstance : mg "isinstance" = none) (z_int : mg "int" = none) (z_bool : mg "bool" = none) : FnOk P w K mg base CX0 1 f fd ["value"] (sp_is_integer_2 K) := by
  refine F.ok sc_is_integer_2 (fun vs H Q E h => ?_) (fun cdv A outer s H0 vs Q E hr h => ?_)
  · obtain ⟨a_value, v_value, rfl, h_value, hm⟩ := h
    rfl
  · obtain ⟨a_value, v_value, rfl, h_value, hm⟩ := h
    have hm : wp (m_is_integer_2 a_value) _ _ := hm
    unfold m_is_integer_2 at hm
    refine ⟨_, (pss_one (ps_ret (pe_and (pe_callB (isiK (K := K) rfl) (by rfl) z_isinstance (by decide +kernel) (pa_cons (pv 0) (pa_cons (pe_bltn (by rfl) z_int (by decide +kernel) (show L2.RelV (.ty "int") (.type "int") from rfl)) pa_nil))) (pe_one (pe_not (pe_callB (isiK (K := K) rfl) (by rfl) z_isinstance (by decide +kernel) (pa_cons (pv 0) (pa_cons (pe_bltn (by rfl) z_bool (by decide +kernel) (show L2.RelV (.ty "bool") (.type "bool") from rfl)) pa_nil)))))))), ?_⟩
    have g0 := Gr.refl (A := []) H0
    refine rd_ret ((ev_andV (fun Q hm => by
        have gb1 := Gr.refl (A := []) H0
        exact rd_cb (rd_cons (rd_var rfl (rd_cons (rd_c (rd_nil (DatM.isi_D (K := K) (T := "int") (by decide) h_value (hm _ _ gb1 rfl)))))))) (fun H2 g3 Q hm => by
        have h_value := Imm.mono g3 h_value
        have g0 := g0.of0' g3
        have gb4 := Gr.refl (A := []) H2
        exact rd_notV (rd_cb (rd_cons (rd_var rfl (rd_cons (rd_c (rd_nil (DatM.isi_D (K := K) (T := "bool") (by decide) h_value (rd_kN (hm _ _ gb4 rfl))))))))))) _ (wp_imp (wp_bind hm) (fun t5 hm v8 H6 g7 h9 => ?_) (fun _ e => e)))
    obtain rfl := h9
    have h_value := Imm.mono g7 h_value
    have g0 := g0.of0' g7
    exact hm _ g0

abbrev s_Field_is_member : Stmt := inClass (topS 31) 2
abbrev n_Field_is_member : List Str := ["self", "value", "item"]
theorem sc_Field_is_member : FnScope n_Field_is_member ["self", "value"] (defScope s_Field_is_member) := ⟨rfl, rfl, rfl, by decide +kernel, rfl, by decide +kernel, by decide +kernel⟩
def m_Field_is_member_b1 (a_self : O_Field) (s26 : List Bool) (x27 : PySem.PyData) : R (List Bool) :=
  (andR ((m_is_integer_2 x27).bind fun t40 => R.ok t40) ((DatM.unI x27).bind fun t46 => R.ok ((decide ((0 : Int) ≤ t46)) && (decide (t46 < a_self.1))))).bind fun t48 => grd (lenLt s26) <| R.ok (s26 ++ [t48])
def m_Field_is_member (a_self : O_Field) (a_value : PySem.PyData) : R Bool :=
  (orR (R.ok (!(DatM.isD "tuple" a_value))) ((DatM.unTD a_value).bind fun t5 => R.ok (!decide (((t5).length : Int) = a_self.2.2.1)))).bind fun t9 => if t9 = true then (R.ok false) else ((DatM.unTD a_value).bind fun t13 => (foldR (m_Field_is_member_b1 a_self) ([]) t13).bind fun s33 => R.ok ((s33).all id))
def sp_Field_is_member (K : PySem.W.Frag) (c_Field : Addr) : Sp := fun vs H Q _ => ∃ (a_self : O_Field) (v_self : V) (a_value : PySem.PyData) (v_value : V), vs = [v_self, v_value] ∧ (rO_Field K c_Field) H a_self v_self ∧ (DatM.rD K) H a_value v_value ∧ wp (m_Field_is_member a_self a_value) (fun r => ∀ H', Gr [] H H' → Q (.bl r) H') (fun _ => False)
theorem ok_Field_is_member {P : Program} {w : World} {K : PySem.W.Frag} {mg : Str → Option Value} {base : Heap} {f : Addr} {fd : FuncData} {c_Field : Addr} (F : Fun K "is_member" "Field.is_member" s_Field_is_member f fd) (z_isinstance : mg "isinstance" = none) (z_tuple : mg "tuple" = none) (z_len : mg "len" = none) (z_all : mg "all" = none) (kl_Field : Cls K c_Field) (na_Field_n : NoAttr K c_Field "n") (na_Field_p : NoAttr K c_Field "p") (c_is_integer_2 : Cal P w K mg base CX0 1 "is_integer" ["value"] (sp_is_integer_2 K)) : FnOk P w K mg base CX0 2 f fd ["self", "value"] (sp_Field_is_member K c_Field) := by
  obtain ⟨f_is_integer_2, fd_is_integer_2, G_is_integer_2, g_is_integer_2, k_is_integer_2, b_is_integer_2⟩ := c_is_integer_2
  refine F.ok sc_Field_is_member (fun vs H Q E h => ?_) (fun cdv A outer s H0 vs Q E hr h => ?_)
  · obtain ⟨a_self, v_self, a_value, v_value, rfl, h_self, h_value, hm⟩ := h
    rfl
  · obtain ⟨a_self, v_self, a_value, v_value, rfl, h_self, h_value, hm⟩ := h
    have hm : wp (m_Field_is_member a_self a_value) _ _ := hm
    unfold m_Field_is_member at hm
    refine ⟨_, (pss_cons (ps_if (PW.pt (pw_or (pt_not (pt_val (pe_callB (isiK (K := K) rfl) (by rfl) z_isinstance (by decide +kernel) (pa_cons (pv 1) (pa_cons (pe_bltn (by rfl) z_tuple (by decide +kernel) (show L2.RelV (.ty "tuple") (.type "tuple") from rfl)) pa_nil))))) (pw_or1 (pt_cmpR op_neI (pe_callB (lenK (K := K) rfl) (by rfl) z_len PySem.boot_len (pa_cons (pv 1) pa_nil)) (pe_fldK (K := K) rfl (pv 0) rfl) (nomark _))))) (pss_one (ps_ret pe_bl)) pss_nil) (pss_one (ps_ret (pe_callB (allK (K := K) rfl rfl) (by rfl) z_all (by decide +kernel) (pa_cons (pe_lc (own := [("item", 2)]) (g := gName 2) (tt := tYes) rfl sc_Field_is_member.nd (pi_tupK (K := K) (pv 1) rfl) (blkOk_by (own := [("item", 2)]) (N := n_Field_is_member) (sc := defScope s_Field_is_member) (by decide +kernel)) (fun _ _ _ _ _ => pg_name (i := 2) sc_Field_is_member.nd rfl (Or.inl rfl)) (fun _ _ _ _ _ => pts_nil) (fun _ _ _ _ _ => (pe_and (pe_call G_is_integer_2 (hr.mono (by decide)) (by rfl) g_is_integer_2 k_is_integer_2 b_is_integer_2 .nil pass0 (pa_cons (pv 2) pa_nil)) (pe_one (pe_chain op_le op_lt pe_int (pv 2) (pe_fldK (K := K) rfl (pv 0) rfl)))))) pa_nil))))), ?_⟩
    have g0 := Gr.refl (A := []) H0
    refine rd_seq (rd_if ((ev_or (fun Q hm => by
        have gb1 := Gr.refl (A := []) H0
        exact rd_not (rd_B (rd_cb (rd_cons (rd_var rfl (rd_cons (rd_c (rd_nil (DatM.isi_D (K := K) (T := "tuple") (by decide) h_value (rd_kB (hm _ gb1))))))))))) (fun H2 g3 Q hm => by
        have h_self := Imm.mono g3 h_self
        have h_value := Imm.mono g3 h_value
        have g0 := g0.of0' g3
        have gb4 := Gr.refl (A := []) H2
        refine rd_T (rd_op (rd_cb (rd_cons (rd_var rfl (rd_nil ?_)))))
        obtain ⟨t5, h6, hm⟩ := DatM.un_R (K := K) DatM.uTD h_value (wp_bind hm)
        refine (len_T h6 (rd_fld (rd_var rfl (fld_Field_n h_self kl_Field na_Field_n fun v7 h8 => ?_))))
        obtain rfl := h8
        exact rd_rI0 (rd_kB (hm _ gb4)))) _ (wp_imp (wp_bind hm) (fun t9 hm H10 g11 => ?_) (fun _ e => e))))
    have h_self := Imm.mono g11 h_self
    have h_value := Imm.mono g11 h_value
    have g0 := g0.of0' g11
    refine iteB (fun e12 => ?_) (fun e12 => ?_)
    · have hm := ifT e12 (wp_iteB hm)
      exact rd_ret (rd_c (hm _ g0))
    have hm := ifF e12 (wp_iteB hm)
    refine rd_next (rd_nx ?_)
    refine rd_ret (rd_cb (rd_cons (rd_lc (rd_it (rd_var rfl ?_)))))
    obtain ⟨t13, h14, hm⟩ := DatM.un_R (K := K) DatM.uTD h_value (wp_bind hm)
    obtain ⟨a18, ea19, vs15, hl16, hp17⟩ := id h14
    refine ⟨_, ea19, ⟨_, hl16⟩, fun p20 n21 => ?_⟩
    have nw22 := Gr.free g0 n21
    refine lc_tup (r := (DatM.rD K)) (H1 := H10) (fun (s : List Bool) (H : Hp) => Gr [] H10 H ∧ Ls rB H p20 s) hp17 (wp_bind hm) ⟨Gr.new n21, ⟨[], upd_same, .nil⟩⟩ (fun _ _ hr => by obtain ⟨g, _⟩ := hr; exact g.tup hl16) (fun x27 v28 s26 H30 N31 hx29 hr32 hm => ?_) (fun s33 H34 hr35 hm => ?_)
    · unfold m_Field_is_member_b1 at hm
      obtain ⟨g36, h37⟩ := hr32
      have h_self := Imm.mono g36 h_self
      have h14 := Imm.mono g36 h14
      have g0 := Gr.of0' g0 g36
      have gl38 := g36
      have hx29 := Imm.mono g36 hx29
      refine rd_gn ⟨rfl, rd_yes (iteT ((ev_andV (fun Q hm => by
          have gb39 := Gr.refl (A := []) H30
          refine rd_call (rd_cons (rd_var rfl (rd_nil ⟨_, _, rfl, hx29, wp_imp (wp_bind hm) (fun t40 hm H41 g42 => ?_) (fun _ e => e)⟩)))
          have h_self := Imm.mono g42 h_self
          have h14 := Imm.mono g42 h14
          have hx29 := Imm.mono g42 hx29
          have h37 := Ls.g0 g42 h37
          have g0 := g0.of0' g42
          have gl38 := gl38.of0' g42
          have gb39 := gb39.of0' g42
          exact hm _ _ gb39 rfl) (fun H43 g44 Q hm => by
          have h_self := Imm.mono g44 h_self
          have h14 := Imm.mono g44 h14
          have hx29 := Imm.mono g44 hx29
          have h37 := Ls.g0 g44 h37
          have g0 := g0.of0' g44
          have gl38 := gl38.of0' g44
          have gb45 := Gr.refl (A := []) H43
          obtain ⟨t46, h47, hm⟩ := DatM.un_R (K := K) DatM.uI hx29 (wp_bind hm)
          obtain rfl := h47
          exact chain_I (fun _ q => rd_c (q)) (fun _ q => rd_var rfl (q)) (fun _ q => rd_fld (rd_var rfl (fld_Field_p h_self kl_Field na_Field_p fun _ hz => by obtain rfl := hz; exact q))) (hm _ _ gb45 rfl))) _ (wp_imp (wp_bind hm) (fun t48 hm v51 H49 g50 h52 => ?_) (fun _ e => e))))⟩
      obtain rfl := h52
      have h_self := Imm.mono g50 h_self
      have h14 := Imm.mono g50 h14
      have hx29 := Imm.mono g50 hx29
      have h37 := Ls.g0 g50 h37
      have g0 := g0.of0' g50
      have gl38 := gl38.of0' g50
      obtain ⟨c53, hm⟩ := wp_grd hm
      refine lc_add h37 rfl c53 fun H54 g55 h56 => ?_
      have h_self := Imm.mono g55 h_self
      have h14 := Imm.mono g55 h14
      have hx29 := Imm.mono g55 hx29
      have g0 := Gr.loc g0 nw22 g55
      have gl38 := Gr.loc gl38 n21 g55
      exact hm _ ⟨gl38, h56⟩
    obtain ⟨g57, h58⟩ := hr35
    have h_self := Imm.mono g57 h_self
    have h14 := Imm.mono g57 h14
    have g0 := Gr.of0' g0 g57
    exact rd_nil (all_L (Ls.q h58) (hm _ g0))

abbrev s_is_positive : Stmt := topS 42
abbrev n_is_positive : List Str := ["value"]
theorem sc_is_positive : FnScope n_is_positive ["value"] (defScope s_is_positive) := ⟨rfl, rfl, rfl, by decide +kernel, rfl, by decide +kernel, by decide +kernel⟩
def m_is_positive (a_value : PySem.PyData) : R Bool :=
  (andR ((m_is_integer_2 a_value).bind fun t2 => R.ok t2) ((DatM.unI a_value).bind fun t8 => R.ok (decide ((0 : Int) < t8)))).bind fun t10 => R.ok t10
def sp_is_positive (K : PySem.W.Frag) : Sp := fun vs H Q _ => ∃ (a_value : PySem.PyData) (v_value : V), vs = [v_value] ∧ (DatM.rD K) H a_value v_value ∧ wp (m_is_positive a_value) (fun r => ∀ H', Gr [] H H' → Q (.bl r) H') (fun _ => False)
theorem ok_is_positive {P : Program} {w : World} {K : PySem.W.Frag} {mg : Str → Option Value} {base : Heap} {f : Addr} {fd : FuncData} (F : Fun K "is_positive" "is_positive" s_is_positive f fd) (c_is_integer_2 : Cal P w K mg base CX0 1 "is_integer" ["value"] (sp_is_integer_2 K)) : FnOk P w K mg base CX0 2 f fd ["value"] (sp_is_positive K) := by
  obtain ⟨f_is_integer_2, fd_is_integer_2, G_is_integer_2, g_is_integer_2, k_is_integer_2, b_is_integer_2⟩ := c_is_integer_2
  refine F.ok sc_is_positive (fun vs H Q E h => ?_) (fun cdv A outer s H0 vs Q E hr h => ?_)
  · obtain ⟨a_value, v_value, rfl, h_value, hm⟩ := h
    rfl
  · obtain ⟨a_value, v_value, rfl, h_value, hm⟩ := h
    have hm : wp (m_is_positive a_value) _ _ := hm
    unfold m_is_positive at hm
    refine ⟨_, (pss_one (ps_ret (pe_and (pe_call G_is_integer_2 (hr.mono (by decide)) (by rfl) g_is_integer_2 k_is_integer_2 b_is_integer_2 .nil pass0 (pa_cons (pv 0) pa_nil)) (pe_one (pe_cmpR op_gt (pv 0) pe_int (nomark _)))))), ?_⟩
    have g0 := Gr.refl (A := []) H0
    refine rd_ret ((ev_andV (fun Q hm => by
        have gb1 := Gr.refl (A := []) H0
        refine rd_call (rd_cons (rd_var rfl (rd_nil ⟨_, _, rfl, h_value, wp_imp (wp_bind hm) (fun t2 hm H3 g4 => ?_) (fun _ e => e)⟩)))
        have h_value := Imm.mono g4 h_value
        have g0 := g0.of0' g4
        have gb1 := gb1.of0' g4
        exact hm _ _ gb1 rfl) (fun H5 g6 Q hm => by
        have h_value := Imm.mono g6 h_value
        have g0 := g0.of0' g6
        have gb7 := Gr.refl (A := []) H5
        refine rd_op (rd_var rfl (rd_c ?_))
        obtain ⟨t8, h9, hm⟩ := DatM.un_R (K := K) DatM.uI h_value (wp_bind hm)
        obtain rfl := h9
        exact rd_rI0 (hm _ _ gb7 rfl))) _ (wp_imp (wp_bind hm) (fun t10 hm v13 H11 g12 h14 => ?_) (fun _ e => e)))
    obtain rfl := h14
    have h_value := Imm.mono g12 h_value
    have g0 := g0.of0' g12
    exact hm _ g0

abbrev s_takes_order : Stmt := topS 39
abbrev n_takes_order : List Str := ["field", "a", "paper", "m", "one", "p"]
theorem sc_takes_order : FnScope n_takes_order ["field", "a", "paper"] (defScope s_takes_order) := ⟨rfl, rfl, rfl, by decide +kernel, rfl, by decide +kernel, by decide +kernel⟩
def m_takes_order_b1 (a_field : O_Field) (a_a : PySem.PyData) (t27 : PySem.PyData) (t60 : (List Int)) (s95 : List Bool) (x96 : PySem.PyData) : R (List Bool) :=
  ((DatM.unT DatM.unI) a_a).bind fun t108 => (DatM.unI t27).bind fun t110 => (DatM.unI x96).bind fun t112 => grd (CDiv t110 t112) <| (noEr (m_Field_power a_field t108 (t110 / t112))).bind fun t115 => grd (lenLt s95) <| R.ok (s95 ++ [(!decide (t115 = t60))])
def m_takes_order (a_field : O_Field) (a_a : PySem.PyData) (a_paper : PySem.PyData) : R Bool :=
  (orR ((noEr (m_is_paper a_paper ("order" : PySem.Str) (3 : Int))).bind fun t2 => R.ok (!t2)) (orR ((noEr (m_Field_is_member a_field a_a)).bind fun t8 => R.ok (!t8)) ((noEr (m_Field_zero a_field)).bind fun t14 => grd (DatM.shOk a_a (PyData.tuple (t14.map PyData.int))) <| R.ok (PyData.eqv a_a (PyData.tuple (t14.map PyData.int)))))).bind fun t21 => if t21 = true then (R.ok false) else ((DatM.unTD a_paper).bind fun t25 => (getL t25 (1 : Int)).bind fun t27 => (orR ((noEr (m_is_positive t27)).bind fun t31 => R.ok (!t31)) (orR ((DatM.unI t27).bind fun t39 => R.ok (decide ((a_field.2.2.2.1 - (1 : Int)) < t39))) ((getL t25 (2 : Int)).bind fun t44 => (DatM.unI t27).bind fun t47 => (noEr (m_prime_divisors t47)).bind fun t49 => grd (DatM.shOk t44 (PyData.tuple (t49.map PyData.int))) <| R.ok (!(PyData.eqv t44 (PyData.tuple (t49.map PyData.int))))))).bind fun t56 => if t56 = true then (R.ok false) else ((noEr (m_Field_one a_field)).bind fun t60 => (andR (((DatM.unT DatM.unI) a_a).bind fun t66 => (DatM.unI t27).bind fun t68 => (m_Field_power a_field t66 t68).bind fun t70 => R.ok (decide (t70 = t60))) ((getL t25 (2 : Int)).bind fun t78 => (DatM.unTD t78).bind fun t81 => (foldR (m_takes_order_b1 a_field a_a t27 t60) ([]) t81).bind fun s102 => R.ok ((s102).all id))).bind fun t126 => R.ok t126))
def sp_takes_order (K : PySem.W.Frag) (c_Field : Addr) (C : Xc) : Sp := fun vs H Q E => ∃ (a_field : O_Field) (v_field : V) (a_a : PySem.PyData) (v_a : V) (a_paper : PySem.PyData) (v_paper : V), vs = [v_field, v_a, v_paper] ∧ (rO_Field K c_Field) H a_field v_field ∧ (DatM.rD K) H a_a v_a ∧ (DatM.rD K) H a_paper v_paper ∧ wp (m_takes_order a_field a_a a_paper) (fun r => ∀ H', Gr [] H H' → Q (.bl r) H') (XEr C [] H E)
theorem ok_takes_order {P : Program} {w : World} {K : PySem.W.Frag} {mg : Str → Option Value} {base : Heap} {f : Addr} {fd : FuncData} {c_fault c_zd c_mal c_refu : Addr} {c_Field : Addr} (F : Fun K "takes_order" "takes_order" s_takes_order f fd) (z_all : mg "all" = none) (kl_Field : Cls K c_Field) (na_Field_q : NoAttr K c_Field "q") (c_is_paper : Cal P w K mg base CX0 2 "is_paper" ["value", "word", "length"] (sp_is_paper K)) (c_Field_is_member : CalM P w K mg base CX0 2 c_Field "is_member" ["self", "value"] (sp_Field_is_member K c_Field)) (c_Field_zero : CalM P w K mg base CX0 1 c_Field "zero" ["self"] (sp_Field_zero K c_Field)) (c_is_positive : Cal P w K mg base CX0 2 "is_positive" ["value"] (sp_is_positive K)) (c_prime_divisors : Cal P w K mg base CX0 3 "prime_divisors" ["n"] (sp_prime_divisors K)) (c_Field_one : CalM P w K mg base CX0 1 c_Field "one" ["self"] (sp_Field_one K c_Field)) (c_Field_power : CalM P w K mg base (CX P w) 2 c_Field "power" ["self", "a", "k"] (sp_Field_power K c_Field (⟨some c_fault, some c_zd, some c_mal, some c_refu, none⟩ : Xc))) : FnOk P w K mg base (CX P w) 4 f fd ["field", "a", "paper"] (sp_takes_order K c_Field (⟨some c_fault, some c_zd, some c_mal, some c_refu, none⟩ : Xc)) := by
  obtain ⟨f_is_paper, fd_is_paper, G_is_paper, g_is_paper, k_is_paper, b_is_paper⟩ := c_is_paper
  obtain ⟨f_Field_is_member, fd_Field_is_member, G_Field_is_member, M_Field_is_member, b_Field_is_member⟩ := c_Field_is_member
  obtain ⟨f_Field_zero, fd_Field_zero, G_Field_zero, M_Field_zero, b_Field_zero⟩ := c_Field_zero
  obtain ⟨f_is_positive, fd_is_positive, G_is_positive, g_is_positive, k_is_positive, b_is_positive⟩ := c_is_positive
  obtain ⟨f_prime_divisors, fd_prime_divisors, G_prime_divisors, g_prime_divisors, k_prime_divisors, b_prime_divisors⟩ := c_prime_divisors
  obtain ⟨f_Field_one, fd_Field_one, G_Field_one, M_Field_one, b_Field_one⟩ := c_Field_one
  obtain ⟨f_Field_power, fd_Field_power, G_Field_power, M_Field_power, b_Field_power⟩ := c_Field_power
  refine F.okX sc_takes_order (fun vs H Q E h => ?_) (fun cdv A outer s H0 vs Q E hr h => ?_)
  · obtain ⟨a_field, v_field, a_a, v_a, a_paper, v_paper, rfl, h_field, h_a, h_paper, hm⟩ := h
    rfl
  · obtain ⟨a_field, v_field, a_a, v_a, a_paper, v_paper, rfl, h_field, h_a, h_paper, hm⟩ := h
    have hm : wp (m_takes_order a_field a_a a_paper) _ _ := hm
    unfold m_takes_order at hm
    refine ⟨_, (pss_cons (ps_if (PW.pt (pw_or (pt_not (pt_val (pe_call G_is_paper (hr.mono (by decide)) (by rfl) g_is_paper k_is_paper b_is_paper .nil pass0 (pa_cons (pv 2) (pa_cons pe_str (pa_cons pe_int pa_nil)))))) (pw_or (pt_not (pt_val (pe_methS (pv 0) kl_Field M_Field_is_member G_Field_is_member (hr.mono (by decide)) b_Field_is_member passN (pa_cons (pv 1) pa_nil)))) (pw_or1 (pt_cmpR (eqDK (K := K) hr.units rfl) (pv 1) (pe_methS0 (pv 0) kl_Field M_Field_zero G_Field_zero (hr.mono (by decide)) b_Field_zero passN) (nomark _)))))) (pss_one (ps_ret pe_bl)) pss_nil) (pss_cons (ps_set (i := 3) sc_takes_order.nd rfl (Or.inr rfl) (pe_ix (ix_tupK (K := K) rfl) (pv 2) pe_int (fun _ _ => rfl))) (pss_cons (ps_if (PW.pt (pw_or (pt_not (pt_val (pe_call G_is_positive (hr.mono (by decide)) (by rfl) g_is_positive k_is_positive b_is_positive .nil pass0 (pa_cons (pv 3) pa_nil)))) (pw_or (pt_cmpR op_gt (pv 3) (pe_op op_sub (pe_fldK (K := K) rfl (pv 0) rfl) pe_int) (nomark _)) (pw_or1 (pt_cmpR (neDK (K := K) hr.units rfl) (pe_ix (ix_tupK (K := K) rfl) (pv 2) pe_int (fun _ _ => rfl)) (pe_call G_prime_divisors (hr.mono (by decide)) (by rfl) g_prime_divisors k_prime_divisors b_prime_divisors .nil pass0 (pa_cons (pv 3) pa_nil)) (nomark _)))))) (pss_one (ps_ret pe_bl)) pss_nil) (pss_cons (ps_set (i := 4) sc_takes_order.nd rfl (Or.inr rfl) (pe_methS0 (pv 0) kl_Field M_Field_one G_Field_one (hr.mono (by decide)) b_Field_one passN)) (pss_one (ps_ret (pe_and (pe_cmpR (eqDK (K := K) hr.units rfl) (pe_methS (pv 0) kl_Field M_Field_power G_Field_power (hr.mono (by decide)) b_Field_power (fun σ => passAt (takes_of rfl rfl rfl rfl) σ) (pa_cons (pv 1) (pa_cons (pv 3) pa_nil))) (pv 4) (nomark _)) (pe_one (pe_callB (allK (K := K) rfl rfl) (by rfl) z_all (by decide +kernel) (pa_cons (pe_lc (own := [("p", 5)]) (g := gName 5) (tt := tYes) rfl sc_takes_order.nd (pi_tupK (K := K) (pe_ix (ix_tupK (K := K) rfl) (pv 2) pe_int (fun _ _ => rfl)) rfl) (blkOk_by (own := [("p", 5)]) (N := n_takes_order) (sc := defScope s_takes_order) (by decide +kernel)) (fun _ _ _ _ _ => pg_name (i := 5) sc_takes_order.nd rfl (Or.inl rfl)) (fun _ _ _ _ _ => pts_nil) (fun _ _ _ _ _ => (pe_cmpR (neDK (K := K) hr.units rfl) (pe_methS (pv 0) kl_Field M_Field_power G_Field_power (hr.mono (by decide)) b_Field_power passLS (pa_cons (pv 1) (pa_cons (pe_op op_fdiv (pv 3) (pv 5)) pa_nil))) (pv 4) (nomark _)))) pa_nil)))))))))), ?_⟩
    have g0 := Gr.refl (A := []) H0
    refine rd_seq (rd_if ((ev_or3 (fun Q hm => by
        have gb1 := Gr.refl (A := []) H0
        refine rd_not (rd_B (rd_call (rd_cons (rd_var rfl (rd_cons (rd_c (rd_cons (rd_c (rd_nil ⟨_, _, _, _, rfl, h_paper, wp_imp (wp_bindN hm) (fun t2 hm H3 g4 => ?_) (fun _ e => e)⟩)))))))))
        have h_field := Imm.mono g4 h_field
        have h_a := Imm.mono g4 h_a
        have h_paper := Imm.mono g4 h_paper
        have g0 := g0.of0' g4
        have gb1 := gb1.of0' g4
        exact rd_kB (hm _ gb1)) (fun H5 g6 Q hm => by
        have h_field := Imm.mono g6 h_field
        have h_a := Imm.mono g6 h_a
        have h_paper := Imm.mono g6 h_paper
        have g0 := g0.of0' g6
        have gb7 := Gr.refl (A := []) H5
        refine rd_not (rd_B (rd_meth (rd_var rfl (meth_Field h_field (by decide +kernel) (rd_cons (rd_var rfl (rd_nil ⟨_, _, _, _, rfl, h_field, h_a, wp_imp (wp_bindN hm) (fun t8 hm H9 g10 => ?_) (fun _ e => e)⟩)))))))
        have h_field := Imm.mono g10 h_field
        have h_a := Imm.mono g10 h_a
        have h_paper := Imm.mono g10 h_paper
        have g0 := g0.of0' g10
        have gb7 := gb7.of0' g10
        exact rd_kB (hm _ gb7)) (fun H11 g12 Q hm => by
        have h_field := Imm.mono g12 h_field
        have h_a := Imm.mono g12 h_a
        have h_paper := Imm.mono g12 h_paper
        have g0 := g0.of0' g12
        have gb13 := Gr.refl (A := []) H11
        refine rd_T (rd_op (rd_var rfl (rd_meth (rd_var rfl (meth_Field h_field (by decide +kernel) (rd_nil ⟨_, _, rfl, h_field, wp_imp (wp_bindN hm) (fun t14 hm v17 H15 g16 h18 => ?_) (fun _ e => e)⟩))))))
        have h_field := Imm.mono g16 h_field
        have h_a := Imm.mono g16 h_a
        have h_paper := Imm.mono g16 h_paper
        have g0 := g0.of0' g16
        have gb13 := gb13.of0' g16
        have h19 := (show DatM.rD K H15 (PyData.tuple (t14.map PyData.int)) v17 from ((DatM.d_T (f := PyData.int) (fun z => DatM.d_I z)) (h18)))
        obtain ⟨c20, hm⟩ := wp_grd hm
        exact DatM.eq_DD (K := K) c20 h_a h19 (rd_kB (hm _ gb13)))) _ (wp_imp (wp_bind hm) (fun t21 hm H22 g23 => ?_) (fun _ e => e))))
    have h_field := Imm.mono g23 h_field
    have h_a := Imm.mono g23 h_a
    have h_paper := Imm.mono g23 h_paper
    have g0 := g0.of0' g23
    refine iteB (fun e24 => ?_) (fun e24 => ?_)
    · have hm := ifT e24 (wp_iteB hm)
      exact rd_ret (rd_c (hm _ g0))
    have hm := ifF e24 (wp_iteB hm)
    refine rd_next (rd_nx ?_)
    refine rd_seq (rd_asg (rd_op (rd_var rfl ?_)))
    obtain ⟨t25, h26, hm⟩ := DatM.un_R (K := K) DatM.uTD h_paper (wp_bind hm)
    refine rd_c (ix_T h26 (wp_bind hm) fun t27 v28 h29 hm => ?_)
    refine rd_gn ?_
    refine rd_nx ?_
    refine rd_seq (rd_if ((ev_or3 (fun Q hm => by
        have gb30 := Gr.refl (A := []) H22
        refine rd_not (rd_B (rd_call (rd_cons (rd_var rfl (rd_nil ⟨_, _, rfl, h29, wp_imp (wp_bindN hm) (fun t31 hm H32 g33 => ?_) (fun _ e => e)⟩)))))
        have h_field := Imm.mono g33 h_field
        have h_a := Imm.mono g33 h_a
        have h26 := Imm.mono g33 h26
        have h29 := Imm.mono g33 h29
        have g0 := g0.of0' g33
        have gb30 := gb30.of0' g33
        exact rd_kB (hm _ gb30)) (fun H34 g35 Q hm => by
        have h_field := Imm.mono g35 h_field
        have h_a := Imm.mono g35 h_a
        have h26 := Imm.mono g35 h26
        have h29 := Imm.mono g35 h29
        have g0 := g0.of0' g35
        have gb36 := Gr.refl (A := []) H34
        refine rd_T (rd_op (rd_var rfl (rd_op (rd_fld (rd_var rfl (fld_Field_q h_field kl_Field na_Field_q fun v37 h38 => ?_))))))
        obtain rfl := h38
        refine rd_c (rd_rI0 ?_)
        obtain ⟨t39, h40, hm⟩ := DatM.un_R (K := K) DatM.uI h29 (wp_bind hm)
        obtain rfl := h40
        exact rd_rI0 (rd_kB (hm _ gb36))) (fun H41 g42 Q hm => by
        have h_field := Imm.mono g42 h_field
        have h_a := Imm.mono g42 h_a
        have h26 := Imm.mono g42 h26
        have h29 := Imm.mono g42 h29
        have g0 := g0.of0' g42
        have gb43 := Gr.refl (A := []) H41
        refine rd_T (rd_op (rd_op (rd_var rfl (rd_c (ix_T h26 (wp_bind hm) fun t44 v45 h46 hm => ?_)))))
        refine rd_call (rd_cons (rd_var rfl ?_))
        obtain ⟨t47, h48, hm⟩ := DatM.un_R (K := K) DatM.uI h29 (wp_bind hm)
        obtain rfl := h48
        refine rd_nil ⟨_, rfl, wp_imp (wp_bindN hm) (fun t49 hm v52 H50 g51 h53 => ?_) (fun _ e => e)⟩
        have h_field := Imm.mono g51 h_field
        have h_a := Imm.mono g51 h_a
        have h26 := Imm.mono g51 h26
        have h46 := Imm.mono g51 h46
        have g0 := g0.of0' g51
        have gb43 := gb43.of0' g51
        have h54 := (show DatM.rD K H50 (PyData.tuple (t49.map PyData.int)) v52 from ((DatM.d_T (f := PyData.int) (fun z => DatM.d_I z)) (h53)))
        obtain ⟨c55, hm⟩ := wp_grd hm
        exact DatM.ne_DD (K := K) c55 h46 h54 (rd_kB (hm _ gb43)))) _ (wp_imp (wp_bind hm) (fun t56 hm H57 g58 => ?_) (fun _ e => e))))
    have h_field := Imm.mono g58 h_field
    have h_a := Imm.mono g58 h_a
    have h26 := Imm.mono g58 h26
    have h29 := Imm.mono g58 h29
    have g0 := g0.of0' g58
    refine iteB (fun e59 => ?_) (fun e59 => ?_)
    · have hm := ifT e59 (wp_iteB hm)
      exact rd_ret (rd_c (hm _ g0))
    have hm := ifF e59 (wp_iteB hm)
    refine rd_next (rd_nx ?_)
    refine rd_seq (rd_asg (rd_meth (rd_var rfl (meth_Field h_field (by decide +kernel) (rd_nil ⟨_, _, rfl, h_field, wp_imp (wp_bindN hm) (fun t60 hm v63 H61 g62 h64 => ?_) (fun _ e => e)⟩)))))
    have h_field := Imm.mono g62 h_field
    have h_a := Imm.mono g62 h_a
    have h26 := Imm.mono g62 h26
    have h29 := Imm.mono g62 h29
    have g0 := g0.of0' g62
    refine rd_gn ?_
    refine rd_nx ?_
    refine rd_ret ((ev_andV (fun Q hm => by
        have gb65 := Gr.refl (A := []) H61
        refine rd_op (rd_meth (rd_var rfl (meth_Field h_field (by decide +kernel) (rd_cons (rd_var rfl ?_)))))
        obtain ⟨t66, h67, hm⟩ := DatM.un_R (K := K) (DatM.uT DatM.uI) h_a (wp_bind hm)
        refine rd_cons (rd_var rfl ?_)
        obtain ⟨t68, h69, hm⟩ := DatM.un_R (K := K) DatM.uI h29 (wp_bind hm)
        obtain rfl := h69
        refine rd_nil ⟨_, _, _, _, _, rfl, h_field, h67, wp_imp (wp_bind hm) (fun t70 hm v73 H71 g72 h74 => ?_) (fun _ e => XEr.sub g0 e)⟩
        have h_field := Imm.mono g72 h_field
        have h67 := Imm.mono g72 h67
        have h26 := Imm.mono g72 h26
        have h64 := Imm.mono g72 h64
        have g0 := g0.of0' g72
        have gb65 := gb65.of0' g72
        exact rd_var rfl (eq_D (DRep.tup (DRep.int K)) h74 h64 (hm _ _ gb65 rfl))) (fun H75 g76 Q hm => by
        have h_field := Imm.mono g76 h_field
        have h_a := Imm.mono g76 h_a
        have h26 := Imm.mono g76 h26
        have h29 := Imm.mono g76 h29
        have h64 := Imm.mono g76 h64
        have g0 := g0.of0' g76
        have gb77 := Gr.refl (A := []) H75
        refine rd_cb (rd_cons (rd_lc (rd_it (rd_op (rd_var rfl (rd_c (ix_T h26 (wp_bind hm) fun t78 v79 h80 hm => ?_)))))))
        obtain ⟨t81, h82, hm⟩ := DatM.un_R (K := K) DatM.uTD h80 (wp_bind hm)
        obtain ⟨a86, ea87, vs83, hl84, hp85⟩ := id h82
        refine ⟨_, ea87, ⟨_, hl84⟩, fun p88 n89 => ?_⟩
        have nw90 := Gr.free g0 n89
        have nw91 := Gr.free gb77 n89
        refine lc_tup (r := (DatM.rD K)) (H1 := H75) (fun (s : List Bool) (H : Hp) => Gr [] H75 H ∧ Ls rB H p88 s) hp85 (wp_bind hm) ⟨Gr.new n89, ⟨[], upd_same, .nil⟩⟩ (fun _ _ hr => by obtain ⟨g, _⟩ := hr; exact g.tup hl84) (fun x96 v97 s95 H99 N100 hx98 hr101 hm => ?_) (fun s102 H103 hr104 hm => ?_)
        · unfold m_takes_order_b1 at hm
          obtain ⟨g105, h106⟩ := hr101
          have h_field := Imm.mono g105 h_field
          have h_a := Imm.mono g105 h_a
          have h26 := Imm.mono g105 h26
          have h29 := Imm.mono g105 h29
          have h64 := Imm.mono g105 h64
          have g0 := Gr.of0' g0 g105
          have gb77 := Gr.of0' gb77 g105
          have gl107 := g105
          have hx98 := Imm.mono g105 hx98
          refine rd_gn ⟨rfl, rd_yes (iteT (rd_op (rd_meth (rd_var rfl (meth_Field h_field (by decide +kernel) (rd_cons (rd_var rfl ?_)))))))⟩
          obtain ⟨t108, h109, hm⟩ := DatM.un_R (K := K) (DatM.uT DatM.uI) h_a (wp_bind hm)
          refine rd_cons (rd_op (rd_var rfl (rd_var rfl ?_)))
          obtain ⟨t110, h111, hm⟩ := DatM.un_R (K := K) DatM.uI h29 (wp_bind hm)
          obtain rfl := h111
          obtain ⟨t112, h113, hm⟩ := DatM.un_R (K := K) DatM.uI hx98 (wp_bind hm)
          obtain rfl := h113
          obtain ⟨c114, hm⟩ := wp_grd hm
          refine rd_rI c114 (rd_nil ⟨_, _, _, _, _, rfl, h_field, h109, wp_imp (wp_bindN hm) (fun t115 hm v118 H116 g117 h119 => ?_) (fun _ e => False.elim e)⟩)
          have h_field := Imm.mono g117 h_field
          have h109 := Imm.mono g117 h109
          have h26 := Imm.mono g117 h26
          have h64 := Imm.mono g117 h64
          have h106 := Ls.g0 g117 h106
          have g0 := g0.of0' g117
          have gb77 := gb77.of0' g117
          have gl107 := gl107.of0' g117
          obtain ⟨c120, hm⟩ := wp_grd hm
          refine rd_var rfl (ne_D (DRep.tup (DRep.int K)) h119 h64 (lc_add h106 rfl c120 fun H121 g122 h123 => ?_))
          have h_field := Imm.mono g122 h_field
          have h109 := Imm.mono g122 h109
          have h26 := Imm.mono g122 h26
          have h64 := Imm.mono g122 h64
          have g0 := Gr.loc g0 nw90 g122
          have gb77 := Gr.loc gb77 nw91 g122
          have gl107 := Gr.loc gl107 n89 g122
          exact hm _ ⟨gl107, h123⟩
        obtain ⟨g124, h125⟩ := hr104
        have h_field := Imm.mono g124 h_field
        have h_a := Imm.mono g124 h_a
        have h26 := Imm.mono g124 h26
        have h29 := Imm.mono g124 h29
        have h64 := Imm.mono g124 h64
        have g0 := Gr.of0' g0 g124
        have gb77 := Gr.of0' gb77 g124
        exact rd_nil (all_L (Ls.q h125) (hm _ _ gb77 rfl)))) _ (wp_imp (wp_bind hm) (fun t126 hm v129 H127 g128 h130 => ?_) (fun _ e => e)))
    obtain rfl := h130
    have h_field := Imm.mono g128 h_field
    have h_a := Imm.mono g128 h_a
    have h26 := Imm.mono g128 h26
    have h29 := Imm.mono g128 h29
    have h64 := Imm.mono g128 h64
    have g0 := g0.of0' g128
    exact hm _ g0

abbrev s__law_refused : Stmt := topS 60
abbrev n__law_refused : List Str := ["field"]
theorem sc__law_refused : FnScope n__law_refused ["field"] (defScope s__law_refused) := ⟨rfl, rfl, rfl, by decide +kernel, rfl, by decide +kernel, by decide +kernel⟩
def m__law_refused (a_field : O_Field) : R Bool :=
  (tryR ((noEr (m_Field_zero a_field)).bind fun t15 => (m_order_paper a_field t15).bind fun t20 => R.ok (Le.dn ())) (fun e => Er.on e (R.ok (Le.rt true)) (R.er (.mal)) (fun r => R.er (.refu r)) (fun i => R.er (.nt i)))).bind fun o => Le.thn o (fun (_ : Unit) => R.ok false) (fun r => R.ok r)
def sp__law_refused (K : PySem.W.Frag) (c_Field : Addr) (TT : List Addr) : Sp := fun vs H Q _ => ∃ (a_field : O_Field) (v_field : V), vs = [v_field] ∧ (rO_Field K c_Field) H a_field v_field ∧ TabsA TT H ∧ wp (m__law_refused a_field) (fun r => ∀ H', Gr [] H H' → Q (.bl r) H') (fun _ => False)
theorem ok__law_refused {P : Program} {w : World} {K : PySem.W.Frag} {mg : Str → Option Value} {base : Heap} {f : Addr} {fd : FuncData} {c_fault c_zd c_mal c_refu : Addr} {TT : List Addr} {c_Field : Addr} (F : Fun K "_law_refused" "_law_refused" s__law_refused f fd) (em_zd_zd : PySem.W.exmOne K (.ref c_zd) (.ref c_zd) = some true) (kl_Field : Cls K c_Field) (gc_zd : mg "ZeroDivisor" = some (.ref c_zd)) (c_Field_zero : CalM P w K mg base CX0 1 c_Field "zero" ["self"] (sp_Field_zero K c_Field)) (c_order_paper : Cal P w K mg base (CX P w) 6 "order_paper" ["field", "a"] (sp_order_paper K c_Field (⟨some c_fault, some c_zd, some c_mal, some c_refu, none⟩ : Xc) TT)) : FnOk P w K mg base CX0 7 f fd ["field"] (sp__law_refused K c_Field TT) := by
  obtain ⟨f_Field_zero, fd_Field_zero, G_Field_zero, M_Field_zero, b_Field_zero⟩ := c_Field_zero
  obtain ⟨f_order_paper, fd_order_paper, G_order_paper, g_order_paper, k_order_paper, b_order_paper⟩ := c_order_paper
  refine F.ok sc__law_refused (fun vs H Q E h => ?_) (fun cdv A outer s H0 vs Q E hr h => ?_)
  · obtain ⟨a_field, v_field, rfl, h_field, hTT, hm⟩ := h
    rfl
  · obtain ⟨a_field, v_field, rfl, h_field, hTT, hm⟩ := h
    have hm : wp (m__law_refused a_field) _ _ := hm
    unfold m__law_refused at hm
    refine ⟨_, (pss_cons (ps_tryOnly rfl rfl ⟨by rfl, by decide, .inl gc_zd⟩ takes0 (fun W pn xe tk po => (pss_one (ps_expr (pe_callS G_order_paper (hr.mono (by decide)) (by rfl) g_order_paper k_order_paper b_order_paper (fun σ => passAt tk σ) (pa_cons (pv 0) (pa_cons (pe_methS0 (pv 0) kl_Field M_Field_zero G_Field_zero (hr.mono (by decide)) b_Field_zero passN) pa_nil)))))) (fun ax oe cls d pn hz hf => (pss_one (ps_ret pe_bl)))) (pss_one (ps_ret pe_bl))), ?_⟩
    have g0 := Gr.refl (A := []) H0
    refine seq_joinL (t := tTryOnly _ _ _ _ _) (wp_le hm) (fun (s : Unit) (σ : L2.St) (H : Hp) => σ = [some v_field] ∧ Gr [] H0 H) (fun N hm => ?_) (fun s3 σ H4 hr5 hm => ?_)
    · have gl6 := Gr.refl (A := []) H0
      refine rd_tryOnly (⟨some c_fault, some c_zd, some c_mal, some c_refu, none⟩ : Xc) ((fun (s : Unit) (σ : L2.St) (H : Hp) => σ = [some v_field] ∧ Gr [] H0 H) ()) hm (fun e σ H7 hrx hm => ?_) (fun W9 hx8 hm => ?_)
      · skip
        obtain ⟨rfl, g10⟩ := hrx
        have h_field := Imm.mono g10 h_field
        have g0 := Gr.of0' g0 g10
        have gl6 := Gr.of0' gl6 g10
        cases e with
        | zd =>
          have hm := wp_on_zd hm
          refine ⟨_, rfl, fun H11 g12 => ⟨true, em_zd_zd, fun _ ax hax => ?_, fun q => nomatch q⟩⟩
          have h_field := Imm.mono g12 h_field
          have g0 := g0.of0' g12
          have gl6 := gl6.of0' g12
          exact rd_ret (rd_c (hm _ g0))
        | mal => exact (show False from hm).elim
        | refu r => exact (show False from hm).elim
        | nt i => exact (show False from hm).elim
      refine rd_drop (rd_callS (rd_cons (rd_var rfl (rd_cons (rd_meth (rd_var rfl (meth_Field h_field (by decide +kernel) (rd_nil ⟨_, _, rfl, h_field, wp_imp (wp_bindN hm) (fun t15 hm v18 H16 g17 h19 => ?_) (fun _ e => e)⟩))))))))
      have h_field := Imm.mono g17 h_field
      have g0 := g0.of0' g17
      have gl6 := gl6.of0' g17
      refine rd_nil ⟨_, _, _, _, rfl, h_field, h19, (hTT.gr g0), wp_imp (wp_bind hm) (fun t20 hm v23 H21 g22 h24 => ?_) (fun _ e => hx8 _ _ _ ⟨rfl, gl6⟩ e)⟩
      have h_field := Imm.mono g22 h_field
      have g0 := g0.of0' g22
      have gl6 := gl6.of0' g22
      exact hm _ _ ⟨rfl, gl6⟩
    obtain ⟨rfl, g25⟩ := hr5
    have h_field := Imm.mono g25 h_field
    have g0 := Gr.of0' g0 g25
    exact rd_ret (rd_c (hm _ g0))

abbrev s_law : Stmt := topS 61
abbrev n_law : List Str := ["script", "state", "p", "modulus", "n", "field", "a", "m", "power", "turn", "paper", "k", "bent", "data", "value"]
theorem sc_law : FnScope n_law ["script"] (defScope s_law) := ⟨rfl, rfl, rfl, by decide +kernel, rfl, by decide +kernel, by decide +kernel⟩
def m_law_b1 (t9 : (Int × (List Int)) × (List Int)) (s41 : (List Int)) (s69 : Int × (List Int)) (x77 : Int) : R (Int × (List Int)) :=
  (m__law_one (((t9.1.2).length : Int) - (1 : Int))).bind fun t85 => if (!decide (s69.2 = t85)) = true then ((m__law_multiply t9.1.1 t9.1.2 s69.2 s41).bind fun t91 => R.ok ((s69.1 + (1 : Int)), t91)) else (R.ok (s69.1, s69.2))
def m_law_b2 (t28 : O_Field) (s41 : (List Int)) (s63 : Int × (List Int)) (s138 : Unit) (x146 : Int) : R (Lp (Unit) (Bool)) :=
  (m__law_primes x146).bind fun t155 => (m_takes_order t28 (PyData.tuple (s41.map PyData.int)) (PyData.tuple ([(PyData.str ("order" : PySem.Str)), (PyData.int x146), (PyData.tuple (t155.map PyData.int))]))).bind fun t166 => if (!decide (V.bl t166 = V.bl (decide (x146 = s63.1)))) = true then (R.ok (Lp.rt false)) else (R.ok (Lp.nx ()))
def m_law_b3 (t28 : O_Field) (s41 : (List Int)) (s291 : Unit) (x299 : PySem.PyData) : R (Lp (Unit) (Bool)) :=
  (m_takes_order t28 (PyData.tuple (s41.map PyData.int)) x299).bind fun t306 => if (!decide (t306 = false)) = true then (R.ok (Lp.rt false)) else (R.ok (Lp.nx ()))
def m_law_b4 (t28 : O_Field) (t100 : (PySem.Str × Int × (List Int))) (s320 : Unit) (x365 : PySem.PyData) : R (Lp (Unit) (Bool)) :=
  (m_takes_order t28 x365 (PyData.tuple [(PyData.str t100.1), (PyData.int t100.2.1), (PyData.tuple (t100.2.2.map PyData.int))])).bind fun t372 => if (!decide (t372 = false)) = true then (R.ok (Lp.rt false)) else (R.ok (Lp.nx ()))
def m_law (a_script : (List Int)) : R Bool :=
  (m__law_state a_script).bind fun t1 => (m__law_pair t1).bind fun t9 => (m_Field___init__ () t9.1.1 t9.1.2).bind fun t28 => (m__law_member t9.2 t9.1.1 (((t9.1.2).length : Int) - (1 : Int))).bind fun t32 => ((m__law_zero (((t9.1.2).length : Int) - (1 : Int))).bind fun t45 => if (decide (t32.1 = t45)) = true then ((m__law_one (((t9.1.2).length : Int) - (1 : Int))).bind fun t51 => R.ok t51) else (R.ok t32.1)).bind fun s41 => (grd (rgOk t28.2.2.2.1) <| foldR (m_law_b1 t9 s41) ((1 : Int), s41) (rng 0 (t28.2.2.2.1).toNat)).bind fun s63 => (m_order_paper t28 s41).bind fun t100 => (orR ((m__law_primes s63.1).bind fun t106 => grd (DatM.shOk (PyData.tuple [(PyData.str t100.1), (PyData.int t100.2.1), (PyData.tuple (t100.2.2.map PyData.int))]) (PyData.tuple [(PyData.str ((("order" : PySem.Str), s63.1, t106).1)), (PyData.int ((("order" : PySem.Str), s63.1, t106).2.1)), (PyData.tuple (((("order" : PySem.Str), s63.1, t106).2.2).map PyData.int))])) <| R.ok (!(PyData.eqv (PyData.tuple [(PyData.str t100.1), (PyData.int t100.2.1), (PyData.tuple (t100.2.2.map PyData.int))]) (PyData.tuple [(PyData.str ((("order" : PySem.Str), s63.1, t106).1)), (PyData.int ((("order" : PySem.Str), s63.1, t106).2.1)), (PyData.tuple (((("order" : PySem.Str), s63.1, t106).2.2).map PyData.int))])))) ((m_takes_order t28 (PyData.tuple (s41.map PyData.int)) (PyData.tuple [(PyData.str t100.1), (PyData.int t100.2.1), (PyData.tuple (t100.2.2.map PyData.int))])).bind fun t123 => R.ok (!decide (t123 = true)))).bind fun t126 => if t126 = true then (R.ok false) else ((grd (rg2Ok (1 : Int) (t28.2.2.2.1 + (1 : Int))) <| loopR (m_law_b2 t28 s41 s63) () (rng (1 : Int) ((t28.2.2.2.1 + (1 : Int)) - (1 : Int)).toNat)).bind fun o => Le.thn o (fun s133 => (m__law_primes s63.1).bind fun t174 => grd (lenOk (t174 ++ [(7 : Int)])) <| (m__law_primes s63.1).bind fun t196 => (m__law_primes s63.1).bind fun t218 => (m__law_primes s63.1).bind fun t237 => grd (lenLt ([(PyData.tuple ([(PyData.str ("order" : PySem.Str)), (PyData.int s63.1), (PyData.tuple ((t174 ++ [(7 : Int)]).map PyData.int))])), (PyData.tuple ([(PyData.str ("order" : PySem.Str)), (PyData.int s63.1), (PyData.list (t196.map PyData.int))])), (PyData.tuple ([(PyData.str ("orders" : PySem.Str)), (PyData.int s63.1), (PyData.tuple (t218.map PyData.int))]))])) <| (if (decide ((1 : Int) < s63.1)) = true then ((m__law_primes s63.1).bind fun t262 => grd (lenLt ([(PyData.tuple ([(PyData.str ("order" : PySem.Str)), (PyData.int s63.1), (PyData.tuple ((t174 ++ [(7 : Int)]).map PyData.int))])), (PyData.tuple ([(PyData.str ("order" : PySem.Str)), (PyData.int s63.1), (PyData.list (t196.map PyData.int))])), (PyData.tuple ([(PyData.str ("orders" : PySem.Str)), (PyData.int s63.1), (PyData.tuple (t218.map PyData.int))]))] ++ [(PyData.tuple ([(PyData.str ("order" : PySem.Str)), (PyData.int (-s63.1)), (PyData.tuple (t237.map PyData.int))]))])) <| R.ok (([(PyData.tuple ([(PyData.str ("order" : PySem.Str)), (PyData.int s63.1), (PyData.tuple ((t174 ++ [(7 : Int)]).map PyData.int))])), (PyData.tuple ([(PyData.str ("order" : PySem.Str)), (PyData.int s63.1), (PyData.list (t196.map PyData.int))])), (PyData.tuple ([(PyData.str ("orders" : PySem.Str)), (PyData.int s63.1), (PyData.tuple (t218.map PyData.int))]))] ++ [(PyData.tuple ([(PyData.str ("order" : PySem.Str)), (PyData.int (-s63.1)), (PyData.tuple (t237.map PyData.int))]))]) ++ [(PyData.tuple ([(PyData.str ("order" : PySem.Str)), (PyData.int s63.1), (PyData.tuple ((cutT t262 (some (1 : Int)) none).map PyData.int))]))])) else (R.ok ([(PyData.tuple ([(PyData.str ("order" : PySem.Str)), (PyData.int s63.1), (PyData.tuple ((t174 ++ [(7 : Int)]).map PyData.int))])), (PyData.tuple ([(PyData.str ("order" : PySem.Str)), (PyData.int s63.1), (PyData.list (t196.map PyData.int))])), (PyData.tuple ([(PyData.str ("orders" : PySem.Str)), (PyData.int s63.1), (PyData.tuple (t218.map PyData.int))]))] ++ [(PyData.tuple ([(PyData.str ("order" : PySem.Str)), (PyData.int (-s63.1)), (PyData.tuple (t237.map PyData.int))]))]))).bind fun s255 => (loopR (m_law_b3 t28 s41) () s255).bind fun o => Le.thn o (fun s286 => ((m_Field_zero t28).bind fun t324 => grd (lenOk (s41 ++ [(0 : Int)])) <| loopR (m_law_b4 t28 t100) () ([(PyData.tuple (t324.map PyData.int)), PyData.none, (PyData.tuple ((s41 ++ [(0 : Int)]).map PyData.int)), (PyData.list (s41.map PyData.int)), (PyData.int (1 : Int))])).bind fun o => Le.thn o (fun s315 => (m__law_refused t28).bind fun t378 => R.ok t378) (fun r => R.ok r)) (fun r => R.ok r)) (fun r => R.ok r))
def sp_law (K : PySem.W.Frag) (TT : List Addr) : Sp := fun vs H Q _ => ∃ (a_script : (List Int)) (p_script : Addr), vs = [.ref p_script] ∧ Lq K rI H p_script a_script ∧ TabsA TT H ∧ wp (m_law a_script) (fun r => ∀ H', Gr [] H H' → Q (.bl r) H') (fun _ => False)
theorem ok_law {P : Program} {w : World} {K : PySem.W.Frag} {mg : Str → Option Value} {base : Heap} {f : Addr} {fd : FuncData} {c_fault c_zd c_mal c_refu : Addr} {TT : List Addr} {c_Field : Addr} (F : Fun K "law" "law" s_law f fd) (z_len : mg "len" = none) (z_range : mg "range" = none) (z_list : mg "list" = none) (kl_Field : Cls K c_Field) (na_Field_q : NoAttr K c_Field "q") (c__law_state : Cal P w K mg base CX0 1 "_law_state" ["script"] (sp__law_state K)) (c__law_pair : Cal P w K mg base CX0 3 "_law_pair" ["state"] (sp__law_pair K)) (c_Field___init__ : CalI P w K mg base (CX P w) 9 c_Field "Field" ["self", "p", "modulus"] (sp_Field___init__ K c_Field (⟨some c_fault, some c_zd, some c_mal, some c_refu, none⟩ : Xc) TT)) (c__law_member : Cal P w K mg base CX0 2 "_law_member" ["state", "p", "n"] (sp__law_member K)) (c__law_zero : Cal P w K mg base CX0 1 "_law_zero" ["n"] (sp__law_zero K)) (c__law_one : Cal P w K mg base CX0 1 "_law_one" ["n"] (sp__law_one K)) (c__law_multiply : Cal P w K mg base CX0 2 "_law_multiply" ["p", "modulus", "a", "b"] (sp__law_multiply K)) (c_order_paper : Cal P w K mg base (CX P w) 6 "order_paper" ["field", "a"] (sp_order_paper K c_Field (⟨some c_fault, some c_zd, some c_mal, some c_refu, none⟩ : Xc) TT)) (c__law_primes : Cal P w K mg base CX0 1 "_law_primes" ["m"] (sp__law_primes K)) (c_takes_order : Cal P w K mg base (CX P w) 4 "takes_order" ["field", "a", "paper"] (sp_takes_order K c_Field (⟨some c_fault, some c_zd, some c_mal, some c_refu, none⟩ : Xc))) (c_Field_zero : CalM P w K mg base CX0 1 c_Field "zero" ["self"] (sp_Field_zero K c_Field)) (c__law_refused : Cal P w K mg base CX0 7 "_law_refused" ["field"] (sp__law_refused K c_Field TT)) : FnOk P w K mg base CX0 11 f fd ["script"] (sp_law K TT) := by
  obtain ⟨f__law_state, fd__law_state, G__law_state, g__law_state, k__law_state, b__law_state⟩ := c__law_state
  obtain ⟨f__law_pair, fd__law_pair, G__law_pair, g__law_pair, k__law_pair, b__law_pair⟩ := c__law_pair
  obtain ⟨f_Field___init__, fd_Field___init__, G_Field___init__, M_Field___init__, g_Field___init__, b_Field___init__⟩ := c_Field___init__
  obtain ⟨f__law_member, fd__law_member, G__law_member, g__law_member, k__law_member, b__law_member⟩ := c__law_member
  obtain ⟨f__law_zero, fd__law_zero, G__law_zero, g__law_zero, k__law_zero, b__law_zero⟩ := c__law_zero
  obtain ⟨f__law_one, fd__law_one, G__law_one, g__law_one, k__law_one, b__law_one⟩ := c__law_one
  obtain ⟨f__law_multiply, fd__law_multiply, G__law_multiply, g__law_multiply, k__law_multiply, b__law_multiply⟩ := c__law_multiply
  obtain ⟨f_order_paper, fd_order_paper, G_order_paper, g_order_paper, k_order_paper, b_order_paper⟩ := c_order_paper
  obtain ⟨f__law_primes, fd__law_primes, G__law_primes, g__law_primes, k__law_primes, b__law_primes⟩ := c__law_primes
  obtain ⟨f_takes_order, fd_takes_order, G_takes_order, g_takes_order, k_takes_order, b_takes_order⟩ := c_takes_order
  obtain ⟨f_Field_zero, fd_Field_zero, G_Field_zero, M_Field_zero, b_Field_zero⟩ := c_Field_zero
  obtain ⟨f__law_refused, fd__law_refused, G__law_refused, g__law_refused, k__law_refused, b__law_refused⟩ := c__law_refused
  refine F.ok sc_law (fun vs H Q E h => ?_) (fun cdv A outer s H0 vs Q E hr h => ?_)
  · obtain ⟨a_script, p_script, rfl, h_script, hTT, hm⟩ := h
    rfl
  · obtain ⟨a_script, p_script, rfl, h_script, hTT, hm⟩ := h
    have hm : wp (m_law a_script) _ _ := hm
    unfold m_law at hm
    refine ⟨_, (pss_cons (ps_set (i := 1) sc_law.nd rfl (Or.inl rfl) (pe_call G__law_state (hr.mono (by decide)) (by rfl) g__law_state k__law_state b__law_state .nil pass0 (pa_cons (pv 0) pa_nil))) (pss_cons (ps_asg (pe_call G__law_pair (hr.mono (by decide)) (by rfl) g__law_pair k__law_pair b__law_pair .nil pass0 (pa_cons (pv 1) pa_nil)) (pg_tup rfl (pgs_cons (pg_name (i := 2) sc_law.nd rfl (Or.inl rfl)) (pgs_cons (pg_name (i := 3) sc_law.nd rfl (Or.inl rfl)) pgs_nil)))) (pss_cons (ps_set (i := 4) sc_law.nd rfl (Or.inl rfl) (pe_op op_sub (pe_callB (lenK (K := K) rfl) (by rfl) z_len PySem.boot_len (pa_cons (pv 3) pa_nil)) pe_int)) (pss_cons (ps_set (i := 5) sc_law.nd rfl (Or.inl rfl) (pe_makeS M_Field___init__ G_Field___init__ (hr.mono (by decide)) (by rfl) g_Field___init__ b_Field___init__ passLS (pa_cons (pv 2) (pa_cons (pv 3) pa_nil)))) (pss_cons (ps_set (i := 6) sc_law.nd rfl (Or.inl rfl) (pe_call G__law_member (hr.mono (by decide)) (by rfl) g__law_member k__law_member b__law_member .nil pass0 (pa_cons (pv 1) (pa_cons (pv 2) (pa_cons (pv 4) pa_nil))))) (pss_cons (ps_if (pt_cmpR (eqDK (K := K) hr.units rfl) (pv 6) (pe_call G__law_zero (hr.mono (by decide)) (by rfl) g__law_zero k__law_zero b__law_zero .nil pass0 (pa_cons (pv 4) pa_nil)) (nomark _)) (pss_one (ps_set (i := 6) sc_law.nd rfl (Or.inl rfl) (pe_call G__law_one (hr.mono (by decide)) (by rfl) g__law_one k__law_one b__law_one .nil pass0 (pa_cons (pv 4) pa_nil)))) pss_nil) (pss_cons (ps_set (i := 7) sc_law.nd rfl (Or.inl rfl) pe_int) (pss_cons (ps_set (i := 8) sc_law.nd rfl (Or.inl rfl) (pv 6)) (pss_cons (ps_for PassesOwn.never rfl (pi_range1 (by rfl) z_range (pa_cons (pe_fldK (K := K) rfl (pv 5) rfl) pa_nil)) (pg_name (i := 9) sc_law.nd rfl (Or.inl rfl)) (pss_one (ps_if (pt_cmpR (neDK (K := K) hr.units rfl) (pv 8) (pe_call G__law_one (hr.mono (by decide)) (by rfl) g__law_one k__law_one b__law_one .nil pass0 (pa_cons (pv 4) pa_nil)) (nomark _)) (pss_cons (ps_set (i := 8) sc_law.nd rfl (Or.inl rfl) (pe_call G__law_multiply (hr.mono (by decide)) (by rfl) g__law_multiply k__law_multiply b__law_multiply .nil pass0 (pa_cons (pv 2) (pa_cons (pv 3) (pa_cons (pv 8) (pa_cons (pv 6) pa_nil)))))) (pss_one (ps_set (i := 7) sc_law.nd rfl (Or.inl rfl) (pe_op op_add (pv 7) pe_int)))) pss_nil))) (pss_cons (ps_set (i := 10) sc_law.nd rfl (Or.inl rfl) (pe_call G_order_paper (hr.mono (by decide)) (by rfl) g_order_paper k_order_paper b_order_paper .nil passL (pa_cons (pv 5) (pa_cons (pv 6) pa_nil)))) (pss_cons (ps_if (PW.pt (pw_or (pt_cmpR (neDK (K := K) hr.units rfl) (pv 10) (pe_tup (pa_cons pe_str (pa_cons (pv 7) (pa_cons (pe_call G__law_primes (hr.mono (by decide)) (by rfl) g__law_primes k__law_primes b__law_primes .nil pass0 (pa_cons (pv 7) pa_nil)) pa_nil)))) (nomark _)) (pw_or1 (pt_cmpR op_notBl (pe_call G_takes_order (hr.mono (by decide)) (by rfl) g_takes_order k_takes_order b_takes_order .nil passL (pa_cons (pv 5) (pa_cons (pv 6) (pa_cons (pv 10) pa_nil)))) pe_bl (nomark _))))) (pss_one (ps_ret pe_bl)) pss_nil) (pss_cons (ps_for PassesOwn.never rfl (pi_range2 (by rfl) z_range (pa_cons pe_int (pa_cons (pe_op op_add (pe_fldK (K := K) rfl (pv 5) rfl) pe_int) pa_nil))) (pg_name (i := 11) sc_law.nd rfl (Or.inl rfl)) (pss_one (ps_if (pt_cmpR op_ne (pe_call G_takes_order (hr.mono (by decide)) (by rfl) g_takes_order k_takes_order b_takes_order .nil passL (pa_cons (pv 5) (pa_cons (pv 6) (pa_cons (pe_tup (pa_cons pe_str (pa_cons (pv 11) (pa_cons (pe_call G__law_primes (hr.mono (by decide)) (by rfl) g__law_primes k__law_primes b__law_primes .nil pass0 (pa_cons (pv 11) pa_nil)) pa_nil)))) pa_nil)))) (pe_cmpR op_eqI (pv 11) (pv 7) (nomark _)) (nomark _)) (pss_one (ps_ret pe_bl)) pss_nil))) (pss_cons (ps_set (i := 12) sc_law.nd rfl (Or.inl rfl) (pe_lst (pa_cons (pe_tup (pa_cons pe_str (pa_cons (pv 7) (pa_cons (pe_op (catAK (K := K) rfl) (pe_call G__law_primes (hr.mono (by decide)) (by rfl) g__law_primes k__law_primes b__law_primes .nil pass0 (pa_cons (pv 7) pa_nil)) (pe_tup (pa_cons pe_int pa_nil))) pa_nil)))) (pa_cons (pe_tup (pa_cons pe_str (pa_cons (pv 7) (pa_cons (pe_frz (pe_callTy (listK (K := K) rfl) (by rfl) z_list (by decide +kernel) (pa_cons (pe_call G__law_primes (hr.mono (by decide)) (by rfl) g__law_primes k__law_primes b__law_primes .nil pass0 (pa_cons (pv 7) pa_nil)) pa_nil))) pa_nil)))) (pa_cons (pe_tup (pa_cons pe_str (pa_cons (pv 7) (pa_cons (pe_call G__law_primes (hr.mono (by decide)) (by rfl) g__law_primes k__law_primes b__law_primes .nil pass0 (pa_cons (pv 7) pa_nil)) pa_nil)))) pa_nil))))) (pss_cons (ps_expr (pe_bm PySem.F.plainAttrs_list PySem.F.slot_list_append PySem.F.type_list_append mt_append (pv 12) (pa_cons (pe_tup (pa_cons pe_str (pa_cons (pe_un un_neg (pv 7)) (pa_cons (pe_call G__law_primes (hr.mono (by decide)) (by rfl) g__law_primes k__law_primes b__law_primes .nil pass0 (pa_cons (pv 7) pa_nil)) pa_nil)))) pa_nil))) (pss_cons (ps_if (pt_cmpR op_gt (pv 7) pe_int (nomark _)) (pss_one (ps_expr (pe_bm PySem.F.plainAttrs_list PySem.F.slot_list_append PySem.F.type_list_append mt_append (pv 12) (pa_cons (pe_tup (pa_cons pe_str (pa_cons (pv 7) (pa_cons (pe_slice (sl_tupAK (K := K) rfl) (pe_call G__law_primes (hr.mono (by decide)) (by rfl) g__law_primes k__law_primes b__law_primes .nil pass0 (pa_cons (pv 7) pa_nil)) (po_some pe_int) po_none) pa_nil)))) pa_nil)))) pss_nil) (pss_cons (ps_for PassesOwn.never rfl (pi_listK (K := K) (pv 12) rfl) (pg_name (i := 13) sc_law.nd rfl (Or.inl rfl)) (pss_one (ps_if (pt_cmpR op_notBl (pe_call G_takes_order (hr.mono (by decide)) (by rfl) g_takes_order k_takes_order b_takes_order .nil passL (pa_cons (pv 5) (pa_cons (pv 6) (pa_cons (pv 13) pa_nil)))) pe_bl (nomark _)) (pss_one (ps_ret pe_bl)) pss_nil))) (pss_cons (ps_for PassesOwn.never rfl (pi_listK (K := K) (pe_lst (pa_cons (pe_methS0 (pv 5) kl_Field M_Field_zero G_Field_zero (hr.mono (by decide)) b_Field_zero passN) (pa_cons pe_non (pa_cons (pe_op (catAK (K := K) rfl) (pv 6) (pe_tup (pa_cons pe_int pa_nil))) (pa_cons (pe_frz (pe_callTy (listK (K := K) rfl) (by rfl) z_list (by decide +kernel) (pa_cons (pv 6) pa_nil))) (pa_cons pe_int pa_nil)))))) rfl) (pg_name (i := 14) sc_law.nd rfl (Or.inl rfl)) (pss_one (ps_if (pt_cmpR op_notBl (pe_call G_takes_order (hr.mono (by decide)) (by rfl) g_takes_order k_takes_order b_takes_order .nil passL (pa_cons (pv 5) (pa_cons (pv 14) (pa_cons (pv 10) pa_nil)))) pe_bl (nomark _)) (pss_one (ps_ret pe_bl)) pss_nil))) (pss_one (ps_ret (pe_call G__law_refused (hr.mono (by decide)) (by rfl) g__law_refused k__law_refused b__law_refused .nil pass0 (pa_cons (pv 5) pa_nil))))))))))))))))))))), ?_⟩
    have g0 := Gr.refl (A := []) H0
    refine st_at (σ' := [some (.ref p_script), none, none, none, none, none, none, none, none, none, none, none, none, none, none]) rfl ?_
    refine rd_seq (rd_asg (rd_call (rd_cons (rd_var rfl (rd_nil ⟨_, _, rfl, h_script, wp_imp (wp_bind hm) (fun t1 hm p4 H2 g3 n5 h6 => ?_) (fun _ e => e)⟩)))))
    have ne7 := sep_new (p := p4) h_script n5
    have nw8 := Gr.free g0 n5
    have h_script := Lq.g0 g3 h_script
    have g0 := g0.of0' g3
    refine rd_gn ?_
    refine rd_nx ?_
    refine st_at (by simp only [List.set_cons_succ, List.set_cons_zero]; rfl) ?_
    refine rd_seq (rd_asg (rd_call (rd_cons (rd_var rfl (rd_nil ⟨_, _, rfl, h6, wp_imp (wp_bind hm) (fun t9 hm v12 H10 g11 h13 h14 => ?_) (fun _ e => e)⟩)))))
    have g0 := Gr.loc g0 nw8 g11
    obtain ⟨a15, x16, x17, ea21, h18, h19, h20⟩ := id h13
    obtain rfl := h19
    refine rd_gtE ea21 h18 rfl (rd_gc (rd_gn (rd_gc (rd_gn (rd_g0 ?_)))))
    refine rd_nx ?_
    refine st_at (by simp only [List.set_cons_succ, List.set_cons_zero]; rfl) ?_
    refine rd_seq (rd_asg (rd_op (rd_cb (rd_cons (rd_var rfl (rd_nil (len_T h20 (rd_c (rd_rI0 (rd_gn ?_))))))))))
    refine rd_nx ?_
    refine rd_seq (rd_asg (rd_make (rd_cons (rd_var rfl (rd_cons (rd_var rfl (rd_nil (fun p22 d23 n24 n25 n26 => ?_))))))))
    have g27 := gr_make (C := c_Field) n24 n25 n26
    refine ⟨(), _, _, _, _, _, H10, rfl, g27, n24, upd_same, (Imm.mono g27 h20), (hTT.gr g0), wp_imp (wp_bind hm) (fun t28 hm H29 g30 h31 => ⟨rfl, ?_⟩) (fun _ e => False.elim e)⟩
    have h14 := Ls.g0 g30 h14
    have h20 := Imm.mono g30 h20
    have g0 := g0.of0' g30
    refine rd_gn ?_
    refine rd_nx ?_
    refine st_at (by simp only [List.set_cons_succ, List.set_cons_zero]; rfl) ?_
    refine rd_seq (rd_asg (rd_call (rd_cons (rd_var rfl (rd_cons (rd_var rfl (rd_cons (rd_var rfl (rd_nil ⟨_, _, _, _, rfl, h14, wp_imp (wp_bind hm) (fun t32 hm v35 H33 g34 h36 h37 => ?_) (fun _ e => e)⟩)))))))))
    have h20 := Imm.mono g34 h20
    have h31 := Imm.mono g34 h31
    have g0 := Gr.loc g0 nw8 g34
    refine rd_gn ?_
    refine rd_nx ?_
    refine st_at (by simp only [List.set_cons_succ, List.set_cons_zero]; rfl) ?_
    refine seq_join (t := tIfS _ _ _) (wp_bind hm) (fun (s : (List Int)) (σ : L2.St) (H : Hp) => ∃ (w56 : V), σ = [some (.ref p_script), some (.ref p4), some (.int t9.1.1), some x17, some (.int (((t9.1.2).length : Int) - (1 : Int))), some (.ref p22), some w56, none, none, none, none, none, none, none, none] ∧ Gr [] H33 H ∧ (rT K rI) H s w56) (fun N39 hN40 hm => ?_) (fun s41 σ H42 hr43 hm => ?_)
    · have gl44 := Gr.refl (A := []) H33
      refine rd_if (rd_T (rd_op (rd_var rfl (rd_call (rd_cons (rd_var rfl (rd_nil ⟨_, rfl, wp_imp (wp_bind hm) (fun t45 hm v48 H46 g47 h49 => ?_) (fun _ e => e)⟩)))))))
      have h20 := Imm.mono g47 h20
      have h31 := Imm.mono g47 h31
      have h36 := Imm.mono g47 h36
      have g0 := g0.of0' g47
      have gl44 := gl44.of0' g47
      refine eq_D (DRep.tup (DRep.int K)) h36 h49 (rd_kB ?_)
      refine iteB (fun e50 => ?_) (fun e50 => ?_)
      · have hm := ifT e50 (wp_iteB hm)
        refine rd_asg (rd_call (rd_cons (rd_var rfl (rd_nil ⟨_, rfl, wp_imp (wp_bind hm) (fun t51 hm v54 H52 g53 h55 => ?_) (fun _ e => e)⟩))))
        have h20 := Imm.mono g53 h20
        have h31 := Imm.mono g53 h31
        have h36 := Imm.mono g53 h36
        have g0 := g0.of0' g53
        have gl44 := gl44.of0' g53
        refine rd_gn ?_
        exact hN40 _ _ _ ⟨_, rfl, gl44, h55⟩ hm
      have hm := ifF e50 (wp_iteB hm)
      exact rd_next (hN40 _ _ _ ⟨_, rfl, gl44, h36⟩ hm)
    obtain ⟨w58, rfl, g57, h59⟩ := hr43
    have h20 := Imm.mono g57 h20
    have h31 := Imm.mono g57 h31
    have g0 := Gr.of0' g0 g57
    refine rd_seq (rd_asg (rd_c (rd_gn ?_)))
    refine rd_nx ?_
    refine rd_seq (rd_asg (rd_var rfl (rd_gn ?_)))
    refine rd_nx ?_
    refine seq_join (t := tFor _ _ _) (wp_bind hm) (fun (s : Int × (List Int)) (σ : L2.St) (H : Hp) => ∃ (w67 : V) (o68 : Option V), σ = [some (.ref p_script), some (.ref p4), some (.int t9.1.1), some x17, some (.int (((t9.1.2).length : Int) - (1 : Int))), some (.ref p22), some w58, some (.int s.1), some w67, o68, none, none, none, none, none] ∧ Gr [] H42 H ∧ (rT K rI) H s.2 w67) (fun N61 hN62 hm => ?_) (fun s63 σ H64 hr65 hm => ?_)
    · have gl66 := Gr.refl (A := []) H42
      refine rd_for (rd_r1 (rd_cons (rd_fld (rd_var rfl (fld_Field_q h31 kl_Field na_Field_q fun v73 h74 => ?_)))))
      obtain rfl := h74
      obtain ⟨c75, hm⟩ := wp_grd hm
      have gl76 := Gr.refl (A := []) H42
      refine rd_nil ⟨_, rfl, c75.1, c75.2, for_rngR (lo := 0) (n := (t28.2.2.2.1).toNat) (fun (s : Int × (List Int)) (σ : L2.St) (H : Hp) => ∃ (w67 : V) (o68 : Option V), σ = [some (.ref p_script), some (.ref p4), some (.int t9.1.1), some x17, some (.int (((t9.1.2).length : Int) - (1 : Int))), some (.ref p22), some w58, some (.int s.1), some w67, o68, none, none, none, none, none] ∧ Gr [] H42 H ∧ (rT K rI) H s.2 w67) (by exact wp_N hm (fun s σ' H' hr hz => hN62 s σ' H' hr hz)) ⟨_, _, rfl, gl76, h59⟩ (fun x77 s69 σ H70 N72 hr71 hm => ?_)⟩
      unfold m_law_b1 at hm
      obtain ⟨w82, o84, rfl, g81, h83⟩ := hr71
      have h20 := Imm.mono g81 h20
      have h31 := Imm.mono g81 h31
      have h59 := Imm.mono g81 h59
      have g0 := Gr.of0' g0 g81
      have gl76 := Gr.of0' gl76 g81
      refine rd_gn (rd_if (rd_T (rd_op (rd_var rfl (rd_call (rd_cons (rd_var rfl (rd_nil ⟨_, rfl, wp_imp (wp_bind hm) (fun t85 hm v88 H86 g87 h89 => ?_) (fun _ e => e)⟩))))))))
      have h20 := Imm.mono g87 h20
      have h31 := Imm.mono g87 h31
      have h59 := Imm.mono g87 h59
      have h83 := Imm.mono g87 h83
      have g0 := g0.of0' g87
      have gl76 := gl76.of0' g87
      refine ne_D (DRep.tup (DRep.int K)) h83 h89 (rd_kB ?_)
      refine iteB (fun e90 => ?_) (fun e90 => ?_)
      · have hm := ifT e90 (wp_iteB hm)
        refine rd_seq (rd_asg (rd_call (rd_cons (rd_var rfl (rd_cons (rd_var rfl (rd_cons (rd_var rfl (rd_cons (rd_var rfl (rd_nil ⟨_, _, _, _, _, _, _, rfl, h20, h83, h59, wp_imp (wp_bind hm) (fun t91 hm v94 H92 g93 h95 => ?_) (fun _ e => e)⟩)))))))))))
        have h20 := Imm.mono g93 h20
        have h31 := Imm.mono g93 h31
        have h59 := Imm.mono g93 h59
        have h83 := Imm.mono g93 h83
        have g0 := g0.of0' g93
        have gl76 := gl76.of0' g93
        refine rd_gn ?_
        refine rd_nx ?_
        refine rd_asg (rd_op (rd_var rfl (rd_c (rd_rI0 (rd_gn ?_)))))
        exact hm _ _ ⟨_, _, rfl, gl76, h95⟩
      have hm := ifF e90 (wp_iteB hm)
      exact rd_next (hm _ _ ⟨_, _, rfl, gl76, h83⟩)
    obtain ⟨w97, o99, rfl, g96, h98⟩ := hr65
    have h20 := Imm.mono g96 h20
    have h31 := Imm.mono g96 h31
    have h59 := Imm.mono g96 h59
    have g0 := Gr.of0' g0 g96
    refine rd_seq (rd_asg (rd_call (rd_cons (rd_var rfl (rd_cons (rd_var rfl (rd_nil ⟨_, _, _, _, rfl, h31, h59, (hTT.gr g0), wp_imp (wp_bind hm) (fun t100 hm v103 H101 g102 h104 => ?_) (fun _ e => False.elim e)⟩)))))))
    have h31 := Imm.mono g102 h31
    have h59 := Imm.mono g102 h59
    have g0 := g0.of0' g102
    refine rd_gn ?_
    refine rd_nx ?_
    refine st_at (by simp only [List.set_cons_succ, List.set_cons_zero]; rfl) ?_
    refine rd_seq (rd_if ((ev_or (fun Q hm => by
        have gb105 := Gr.refl (A := []) H101
        refine rd_T (rd_op (rd_var rfl (rd_tup (rd_cons (rd_c (rd_cons (rd_var rfl (rd_cons (rd_call (rd_cons (rd_var rfl (rd_nil ⟨_, rfl, wp_imp (wp_bind hm) (fun t106 hm v109 H107 g108 h110 => ?_) (fun _ e => e)⟩))))))))))))
        have h31 := Imm.mono g108 h31
        have h59 := Imm.mono g108 h59
        have h104 := Imm.mono g108 h104
        have g0 := g0.of0' g108
        have gb105 := gb105.of0' g108
        refine rd_nil (mk_P3 (K := K) (r := rS) (s := rI) (t := (rT K rI)) rfl rfl h110 fun v111 H112 g113 h114 => ?_)
        have h31 := Imm.mono g113 h31
        have h59 := Imm.mono g113 h59
        have h104 := Imm.mono g113 h104
        have g0 := g0.of0' g113
        have gb105 := gb105.of0' g113
        have h115 := (show DatM.rD K H112 (PyData.tuple [(PyData.str t100.1), (PyData.int t100.2.1), (PyData.tuple (t100.2.2.map PyData.int))]) v103 from ((DatM.d_P3 (f := PyData.str) (g := PyData.int) (k := (fun xs => PyData.tuple (xs.map PyData.int))) (fun z => DatM.d_S z) (fun z => DatM.d_I z) (fun z => (DatM.d_T (f := PyData.int) (fun z => DatM.d_I z)) z)) (h104)))
        have h116 := (show DatM.rD K H112 (PyData.tuple [(PyData.str ((("order" : PySem.Str), s63.1, t106).1)), (PyData.int ((("order" : PySem.Str), s63.1, t106).2.1)), (PyData.tuple (((("order" : PySem.Str), s63.1, t106).2.2).map PyData.int))]) v111 from ((DatM.d_P3 (f := PyData.str) (g := PyData.int) (k := (fun xs => PyData.tuple (xs.map PyData.int))) (fun z => DatM.d_S z) (fun z => DatM.d_I z) (fun z => (DatM.d_T (f := PyData.int) (fun z => DatM.d_I z)) z)) (h114)))
        obtain ⟨c117, hm⟩ := wp_grd hm
        exact DatM.ne_DD (K := K) c117 h115 h116 (rd_kB (hm _ gb105))) (fun H118 g119 Q hm => by
        have h31 := Imm.mono g119 h31
        have h59 := Imm.mono g119 h59
        have h104 := Imm.mono g119 h104
        have g0 := g0.of0' g119
        have gb120 := Gr.refl (A := []) H118
        have h121 := (show DatM.rD K H118 (PyData.tuple (s41.map PyData.int)) w58 from ((DatM.d_T (f := PyData.int) (fun z => DatM.d_I z)) (h59)))
        have h122 := (show DatM.rD K H118 (PyData.tuple [(PyData.str t100.1), (PyData.int t100.2.1), (PyData.tuple (t100.2.2.map PyData.int))]) v103 from ((DatM.d_P3 (f := PyData.str) (g := PyData.int) (k := (fun xs => PyData.tuple (xs.map PyData.int))) (fun z => DatM.d_S z) (fun z => DatM.d_I z) (fun z => (DatM.d_T (f := PyData.int) (fun z => DatM.d_I z)) z)) (h104)))
        refine rd_T (rd_op (rd_call (rd_cons (rd_var rfl (rd_cons (rd_var rfl (rd_cons (rd_var rfl (rd_nil ⟨_, _, _, _, _, _, rfl, h31, h121, h122, wp_imp (wp_bind hm) (fun t123 hm H124 g125 => ?_) (fun _ e => False.elim e)⟩)))))))))
        have h31 := Imm.mono g125 h31
        have h59 := Imm.mono g125 h59
        have h104 := Imm.mono g125 h104
        have g0 := g0.of0' g125
        have gb120 := gb120.of0' g125
        exact rd_c (DatM.isnB (rd_kB (hm _ gb120))))) _ (wp_imp (wp_bind hm) (fun t126 hm H127 g128 => ?_) (fun _ e => e))))
    have h31 := Imm.mono g128 h31
    have h59 := Imm.mono g128 h59
    have h104 := Imm.mono g128 h104
    have g0 := g0.of0' g128
    refine iteB (fun e129 => ?_) (fun e129 => ?_)
    · have hm := ifT e129 (wp_iteB hm)
      exact rd_ret (rd_c (hm _ g0))
    have hm := ifF e129 (wp_iteB hm)
    refine rd_next (rd_nx ?_)
    refine seq_joinL (t := tFor _ _ _) (wp_le hm) (fun (s : Unit) (σ : L2.St) (H : Hp) => ∃ (o137 : Option V), σ = [some (.ref p_script), some (.ref p4), some (.int t9.1.1), some x17, some (.int (((t9.1.2).length : Int) - (1 : Int))), some (.ref p22), some w58, some (.int s63.1), some w97, o99, some v103, o137, none, none, none] ∧ Gr [] H127 H) (fun N131 hm => ?_) (fun s133 σ H134 hr135 hm => ?_)
    · have gl136 := Gr.refl (A := []) H127
      refine rd_for (rd_r2 (rd_cons (rd_c (rd_cons (rd_op (rd_fld (rd_var rfl (fld_Field_q h31 kl_Field na_Field_q fun v142 h143 => ?_))))))))
      obtain rfl := h143
      obtain ⟨c144, hm⟩ := wp_grd hm
      have gl145 := Gr.refl (A := []) H127
      refine rd_c (rd_rI0 (rd_nil ⟨_, _, rfl, c144, for_rngL (lo := (1 : Int)) (n := ((t28.2.2.2.1 + (1 : Int)) - (1 : Int)).toNat) (fun (s : Unit) (σ : L2.St) (H : Hp) => ∃ (o137 : Option V), σ = [some (.ref p_script), some (.ref p4), some (.int t9.1.1), some x17, some (.int (((t9.1.2).length : Int) - (1 : Int))), some (.ref p22), some w58, some (.int s63.1), some w97, o99, some v103, o137, none, none, none] ∧ Gr [] H127 H) (by exact wp_imp hm (fun o ho => leP_imp ho (fun s hz σ' H' hr => hz σ' H' hr) (fun _ h => h)) (fun _ e => e)) ⟨_, rfl, gl145⟩ (fun x146 s138 σ H139 N141 hr140 hm => ?_)⟩))
      unfold m_law_b2 at hm
      obtain ⟨o151, rfl, g150⟩ := hr140
      have h31 := Imm.mono g150 h31
      have h59 := Imm.mono g150 h59
      have h104 := Imm.mono g150 h104
      have g0 := Gr.of0' g0 g150
      have gl145 := Gr.of0' gl145 g150
      have h152 := (show DatM.rD K H139 (PyData.tuple (s41.map PyData.int)) w58 from ((DatM.d_T (f := PyData.int) (fun z => DatM.d_I z)) (h59)))
      have h153 := (show DatM.rD K H139 (PyData.str ("order" : PySem.Str)) (.str ("order" : PySem.Str)) from (DatM.d_S (rfl : rS H139 ("order" : PySem.Str) (.str ("order" : PySem.Str)))))
      have h154 := (show DatM.rD K H139 (PyData.int x146) (.int x146) from (DatM.d_I (rfl : rI H139 x146 (.int x146))))
      refine rd_gn (rd_if (rd_T (rd_op (rd_call (rd_cons (rd_var rfl (rd_cons (rd_var rfl (rd_cons (rd_tup (rd_cons (rd_c (rd_cons (rd_var rfl (rd_cons (rd_call (rd_cons (rd_var rfl (rd_nil ⟨_, rfl, wp_imp (wp_bind hm) (fun t155 hm v158 H156 g157 h159 => ?_) (fun _ e => e)⟩)))))))))))))))))))
      have h31 := Imm.mono g157 h31
      have h59 := Imm.mono g157 h59
      have h104 := Imm.mono g157 h104
      have h152 := Imm.mono g157 h152
      have h153 := Imm.mono g157 h153
      have h154 := Imm.mono g157 h154
      have g0 := g0.of0' g157
      have gl145 := gl145.of0' g157
      have h160 := (show DatM.rD K H156 (PyData.tuple (t155.map PyData.int)) v158 from ((DatM.d_T (f := PyData.int) (fun z => DatM.d_I z)) (h159)))
      refine rd_nil (mk_T (K := K) (r := (DatM.rD K)) (xs := [(PyData.str ("order" : PySem.Str)), (PyData.int x146), (PyData.tuple (t155.map PyData.int))]) (.cons h153 (.cons h154 (.cons h160 .nil))) (by show 3 ≤ sizeLine; decide) fun v161 H162 g163 h164 => ?_)
      have h31 := Imm.mono g163 h31
      have h59 := Imm.mono g163 h59
      have h104 := Imm.mono g163 h104
      have h152 := Imm.mono g163 h152
      have g0 := g0.of0' g163
      have gl145 := gl145.of0' g163
      have h165 := (show DatM.rD K H162 (PyData.tuple ([(PyData.str ("order" : PySem.Str)), (PyData.int x146), (PyData.tuple (t155.map PyData.int))])) v161 from (DatM.d_TD (h164)))
      refine rd_nil ⟨_, _, _, _, _, _, rfl, h31, h152, h165, wp_imp (wp_bind hm) (fun t166 hm H167 g168 => ?_) (fun _ e => False.elim e)⟩
      have h31 := Imm.mono g168 h31
      have h59 := Imm.mono g168 h59
      have h104 := Imm.mono g168 h104
      have g0 := g0.of0' g168
      have gl145 := gl145.of0' g168
      refine rd_op (rd_var rfl (rd_var rfl (rd_rI0 (rd_rNe rfl (rd_kB ?_)))))
      refine iteB (fun e169 => ?_) (fun e169 => ?_)
      · have hm := ifT e169 (wp_iteB hm)
        exact rd_ret (rd_c (hm _ g0))
      have hm := ifF e169 (wp_iteB hm)
      exact rd_next (hm _ _ ⟨_, rfl, gl145⟩)
    obtain ⟨o171, rfl, g170⟩ := hr135
    have h31 := Imm.mono g170 h31
    have h59 := Imm.mono g170 h59
    have h104 := Imm.mono g170 h104
    have g0 := Gr.of0' g0 g170
    have h172 := (show DatM.rD K H134 (PyData.str ("order" : PySem.Str)) (.str ("order" : PySem.Str)) from (DatM.d_S (rfl : rS H134 ("order" : PySem.Str) (.str ("order" : PySem.Str)))))
    have h173 := (show DatM.rD K H134 (PyData.int s63.1) (.int s63.1) from (DatM.d_I (rfl : rI H134 s63.1 (.int s63.1))))
    refine rd_seq (rd_asg (rd_lst (rd_cons (rd_tup (rd_cons (rd_c (rd_cons (rd_var rfl (rd_cons (rd_op (rd_call (rd_cons (rd_var rfl (rd_nil ⟨_, rfl, wp_imp (wp_bind hm) (fun t174 hm v177 H175 g176 h178 => ?_) (fun _ e => e)⟩))))))))))))))
    have h31 := Imm.mono g176 h31
    have h59 := Imm.mono g176 h59
    have h104 := Imm.mono g176 h104
    have h172 := Imm.mono g176 h172
    have h173 := Imm.mono g176 h173
    have g0 := g0.of0' g176
    refine rd_tup (rd_cons (rd_c (rd_nil (mk_T (K := K) (r := rI) (xs := [(7 : Int)]) (.cons rfl .nil) (by show 1 ≤ sizeLine; decide) fun v179 H180 g181 h182 => ?_))))
    have h31 := Imm.mono g181 h31
    have h59 := Imm.mono g181 h59
    have h104 := Imm.mono g181 h104
    have h172 := Imm.mono g181 h172
    have h173 := Imm.mono g181 h173
    have h178 := Imm.mono g181 h178
    have g0 := g0.of0' g181
    obtain ⟨c183, hm⟩ := wp_grd hm
    refine cat_TA h178 h182 c183 fun v184 H185 g186 h187 => ?_
    have h31 := Imm.mono g186 h31
    have h59 := Imm.mono g186 h59
    have h104 := Imm.mono g186 h104
    have h172 := Imm.mono g186 h172
    have h173 := Imm.mono g186 h173
    have g0 := g0.of0' g186
    have h188 := (show DatM.rD K H185 (PyData.tuple ((t174 ++ [(7 : Int)]).map PyData.int)) v184 from ((DatM.d_T (f := PyData.int) (fun z => DatM.d_I z)) (h187)))
    refine rd_nil (mk_T (K := K) (r := (DatM.rD K)) (xs := [(PyData.str ("order" : PySem.Str)), (PyData.int s63.1), (PyData.tuple ((t174 ++ [(7 : Int)]).map PyData.int))]) (.cons h172 (.cons h173 (.cons h188 .nil))) (by show 3 ≤ sizeLine; decide) fun v189 H190 g191 h192 => ?_)
    have h31 := Imm.mono g191 h31
    have h59 := Imm.mono g191 h59
    have h104 := Imm.mono g191 h104
    have g0 := g0.of0' g191
    have h193 := (show DatM.rD K H190 (PyData.tuple ([(PyData.str ("order" : PySem.Str)), (PyData.int s63.1), (PyData.tuple ((t174 ++ [(7 : Int)]).map PyData.int))])) v189 from (DatM.d_TD (h192)))
    have h194 := (show DatM.rD K H190 (PyData.str ("order" : PySem.Str)) (.str ("order" : PySem.Str)) from (DatM.d_S (rfl : rS H190 ("order" : PySem.Str) (.str ("order" : PySem.Str)))))
    have h195 := (show DatM.rD K H190 (PyData.int s63.1) (.int s63.1) from (DatM.d_I (rfl : rI H190 s63.1 (.int s63.1))))
    refine rd_cons (rd_tup (rd_cons (rd_c (rd_cons (rd_var rfl (rd_cons (rd_frzE (rd_cb (rd_cons (rd_call (rd_cons (rd_var rfl (rd_nil ⟨_, rfl, wp_imp (wp_bind hm) (fun t196 hm v199 H197 g198 h200 => ?_) (fun _ e => e)⟩)))))))))))))
    have h31 := Imm.mono g198 h31
    have h59 := Imm.mono g198 h59
    have h104 := Imm.mono g198 h104
    have h193 := Imm.mono g198 h193
    have h194 := Imm.mono g198 h194
    have h195 := Imm.mono g198 h195
    have g0 := g0.of0' g198
    refine rd_nil (lst_of_T h200 fun p201 H202 n203 g204 h205 => ?_)
    have nw206 := Gr.free g0 n203
    have h31 := Imm.mono g204 h31
    have h59 := Imm.mono g204 h59
    have h104 := Imm.mono g204 h104
    have h193 := Imm.mono g204 h193
    have h194 := Imm.mono g204 h194
    have h195 := Imm.mono g204 h195
    have g0 := g0.of0' g204
    refine fz_L h205 fun H207 f208 h209 => ?_
    have h31 := Imm.im f208.im h31
    have h59 := Imm.im f208.im h59
    have h104 := Imm.im f208.im h104
    have h193 := Imm.im f208.im h193
    have h194 := Imm.im f208.im h194
    have h195 := Imm.im f208.im h195
    have g0 := Gr.fz g0 nw206 f208
    have h210 := (show DatM.rD K H207 (PyData.list (t196.map PyData.int)) (.ref p201) from ((DatM.d_Z (f := PyData.int) (fun z => DatM.d_I z)) (h209)))
    refine rd_nil (mk_T (K := K) (r := (DatM.rD K)) (xs := [(PyData.str ("order" : PySem.Str)), (PyData.int s63.1), (PyData.list (t196.map PyData.int))]) (.cons h194 (.cons h195 (.cons h210 .nil))) (by show 3 ≤ sizeLine; decide) fun v211 H212 g213 h214 => ?_)
    have h31 := Imm.mono g213 h31
    have h59 := Imm.mono g213 h59
    have h104 := Imm.mono g213 h104
    have h193 := Imm.mono g213 h193
    have g0 := g0.of0' g213
    have h215 := (show DatM.rD K H212 (PyData.tuple ([(PyData.str ("order" : PySem.Str)), (PyData.int s63.1), (PyData.list (t196.map PyData.int))])) v211 from (DatM.d_TD (h214)))
    have h216 := (show DatM.rD K H212 (PyData.str ("orders" : PySem.Str)) (.str ("orders" : PySem.Str)) from (DatM.d_S (rfl : rS H212 ("orders" : PySem.Str) (.str ("orders" : PySem.Str)))))
    have h217 := (show DatM.rD K H212 (PyData.int s63.1) (.int s63.1) from (DatM.d_I (rfl : rI H212 s63.1 (.int s63.1))))
    refine rd_cons (rd_tup (rd_cons (rd_c (rd_cons (rd_var rfl (rd_cons (rd_call (rd_cons (rd_var rfl (rd_nil ⟨_, rfl, wp_imp (wp_bind hm) (fun t218 hm v221 H219 g220 h222 => ?_) (fun _ e => e)⟩))))))))))
    have h31 := Imm.mono g220 h31
    have h59 := Imm.mono g220 h59
    have h104 := Imm.mono g220 h104
    have h193 := Imm.mono g220 h193
    have h215 := Imm.mono g220 h215
    have h216 := Imm.mono g220 h216
    have h217 := Imm.mono g220 h217
    have g0 := g0.of0' g220
    have h223 := (show DatM.rD K H219 (PyData.tuple (t218.map PyData.int)) v221 from ((DatM.d_T (f := PyData.int) (fun z => DatM.d_I z)) (h222)))
    refine rd_nil (mk_T (K := K) (r := (DatM.rD K)) (xs := [(PyData.str ("orders" : PySem.Str)), (PyData.int s63.1), (PyData.tuple (t218.map PyData.int))]) (.cons h216 (.cons h217 (.cons h223 .nil))) (by show 3 ≤ sizeLine; decide) fun v224 H225 g226 h227 => ?_)
    have h31 := Imm.mono g226 h31
    have h59 := Imm.mono g226 h59
    have h104 := Imm.mono g226 h104
    have h193 := Imm.mono g226 h193
    have h215 := Imm.mono g226 h215
    have g0 := g0.of0' g226
    have h228 := (show DatM.rD K H225 (PyData.tuple ([(PyData.str ("orders" : PySem.Str)), (PyData.int s63.1), (PyData.tuple (t218.map PyData.int))])) v224 from (DatM.d_TD (h227)))
    refine rd_nil (mk_L (r := (DatM.rD K)) (xs := [(PyData.tuple ([(PyData.str ("order" : PySem.Str)), (PyData.int s63.1), (PyData.tuple ((t174 ++ [(7 : Int)]).map PyData.int))])), (PyData.tuple ([(PyData.str ("order" : PySem.Str)), (PyData.int s63.1), (PyData.list (t196.map PyData.int))])), (PyData.tuple ([(PyData.str ("orders" : PySem.Str)), (PyData.int s63.1), (PyData.tuple (t218.map PyData.int))]))]) (.cons h193 (.cons h215 (.cons h228 .nil))) (by show 3 ≤ sizeLine; decide) fun p229 H230 n231 g232 h233 => ?_)
    have nw234 := Gr.free g0 n231
    have h31 := Imm.mono g232 h31
    have h59 := Imm.mono g232 h59
    have h104 := Imm.mono g232 h104
    have g0 := g0.of0' g232
    refine rd_gn ?_
    refine rd_nx ?_
    refine st_at (by simp only [List.set_cons_succ, List.set_cons_zero]; rfl) ?_
    have h235 := (show DatM.rD K H230 (PyData.str ("order" : PySem.Str)) (.str ("order" : PySem.Str)) from (DatM.d_S (rfl : rS H230 ("order" : PySem.Str) (.str ("order" : PySem.Str)))))
    have h236 := (show DatM.rD K H230 (PyData.int (-s63.1)) (.int (-s63.1)) from (DatM.d_I (rfl : rI H230 (-s63.1) (.int (-s63.1)))))
    refine rd_seq (rd_drop (rd_bm (rd_var rfl ⟨(Ls.ty h233), rd_cons (rd_tup (rd_cons (rd_c (rd_cons (rd_un (rd_var rfl (rd_rU (rd_cons (rd_call (rd_cons (rd_var rfl (rd_nil ⟨_, rfl, wp_imp (wp_bind hm) (fun t237 hm v240 H238 g239 h241 => ?_) (fun _ e => e)⟩))))))))))))⟩)))
    have h31 := Imm.mono g239 h31
    have h59 := Imm.mono g239 h59
    have h104 := Imm.mono g239 h104
    have h233 := Ls.g0 g239 h233
    have h235 := Imm.mono g239 h235
    have h236 := Imm.mono g239 h236
    have g0 := g0.of0' g239
    have h242 := (show DatM.rD K H238 (PyData.tuple (t237.map PyData.int)) v240 from ((DatM.d_T (f := PyData.int) (fun z => DatM.d_I z)) (h241)))
    refine rd_nil (mk_T (K := K) (r := (DatM.rD K)) (xs := [(PyData.str ("order" : PySem.Str)), (PyData.int (-s63.1)), (PyData.tuple (t237.map PyData.int))]) (.cons h235 (.cons h236 (.cons h242 .nil))) (by show 3 ≤ sizeLine; decide) fun v243 H244 g245 h246 => ?_)
    have h31 := Imm.mono g245 h31
    have h59 := Imm.mono g245 h59
    have h104 := Imm.mono g245 h104
    have h233 := Ls.g0 g245 h233
    have g0 := g0.of0' g245
    have h247 := (show DatM.rD K H244 (PyData.tuple ([(PyData.str ("order" : PySem.Str)), (PyData.int (-s63.1)), (PyData.tuple (t237.map PyData.int))])) v243 from (DatM.d_TD (h246)))
    obtain ⟨c248, hm⟩ := wp_grd hm
    refine rd_nil (rd_append h233 h247 c248 fun H249 g250 h251 => ?_)
    have h31 := Imm.mono g250 h31
    have h59 := Imm.mono g250 h59
    have h104 := Imm.mono g250 h104
    have g0 := Gr.loc g0 nw234 g250
    refine rd_nx ?_
    refine seq_join (t := tIfS _ _ _) (wp_bind hm) (fun (s : (List PySem.PyData)) (σ : L2.St) (H : Hp) => σ = [some (.ref p_script), some (.ref p4), some (.int t9.1.1), some x17, some (.int (((t9.1.2).length : Int) - (1 : Int))), some (.ref p22), some w58, some (.int s63.1), some w97, o99, some v103, o171, some (.ref p229), none, none] ∧ Gr [p229] H249 H ∧ Ls (DatM.rD K) H p229 s) (fun N253 hN254 hm => ?_) (fun s255 σ H256 hr257 hm => ?_)
    · have gl258 := Gr.refl (A := [p229]) H249
      refine rd_if (rd_T (rd_op (rd_var rfl (rd_c (rd_rI0 (rd_kB ?_))))))
      refine iteB (fun e259 => ?_) (fun e259 => ?_)
      · have hm := ifT e259 (wp_iteB hm)
        have h260 := (show DatM.rD K H249 (PyData.str ("order" : PySem.Str)) (.str ("order" : PySem.Str)) from (DatM.d_S (rfl : rS H249 ("order" : PySem.Str) (.str ("order" : PySem.Str)))))
        have h261 := (show DatM.rD K H249 (PyData.int s63.1) (.int s63.1) from (DatM.d_I (rfl : rI H249 s63.1 (.int s63.1))))
        refine rd_drop (rd_bm (rd_var rfl ⟨(Ls.ty h251), rd_cons (rd_tup (rd_cons (rd_c (rd_cons (rd_var rfl (rd_cons (rd_sl (rd_call (rd_cons (rd_var rfl (rd_nil ⟨_, rfl, wp_imp (wp_bind hm) (fun t262 hm v265 H263 g264 h266 => ?_) (fun _ e => e)⟩)))))))))))⟩))
        have h31 := Imm.mono g264 h31
        have h59 := Imm.mono g264 h59
        have h104 := Imm.mono g264 h104
        have h251 := Ls.g0 g264 h251
        have h260 := Imm.mono g264 h260
        have h261 := Imm.mono g264 h261
        have g0 := g0.of0' g264
        have gl258 := gl258.of0' g264
        refine rd_part (rd_c (rd_kI (rd_np (cut_TA h266 fun v267 H268 g269 h270 => ?_))))
        have h31 := Imm.mono g269 h31
        have h59 := Imm.mono g269 h59
        have h104 := Imm.mono g269 h104
        have h251 := Ls.g0 g269 h251
        have h260 := Imm.mono g269 h260
        have h261 := Imm.mono g269 h261
        have g0 := g0.of0' g269
        have gl258 := gl258.of0' g269
        have h271 := (show DatM.rD K H268 (PyData.tuple ((cutT t262 (some (1 : Int)) none).map PyData.int)) v267 from ((DatM.d_T (f := PyData.int) (fun z => DatM.d_I z)) (h270)))
        refine rd_nil (mk_T (K := K) (r := (DatM.rD K)) (xs := [(PyData.str ("order" : PySem.Str)), (PyData.int s63.1), (PyData.tuple ((cutT t262 (some (1 : Int)) none).map PyData.int))]) (.cons h260 (.cons h261 (.cons h271 .nil))) (by show 3 ≤ sizeLine; decide) fun v272 H273 g274 h275 => ?_)
        have h31 := Imm.mono g274 h31
        have h59 := Imm.mono g274 h59
        have h104 := Imm.mono g274 h104
        have h251 := Ls.g0 g274 h251
        have g0 := g0.of0' g274
        have gl258 := gl258.of0' g274
        have h276 := (show DatM.rD K H273 (PyData.tuple ([(PyData.str ("order" : PySem.Str)), (PyData.int s63.1), (PyData.tuple ((cutT t262 (some (1 : Int)) none).map PyData.int))])) v272 from (DatM.d_TD (h275)))
        obtain ⟨c277, hm⟩ := wp_grd hm
        refine rd_nil (rd_append h251 h276 c277 fun H278 g279 h280 => ?_)
        have h31 := Imm.mono g279 h31
        have h59 := Imm.mono g279 h59
        have h104 := Imm.mono g279 h104
        have g0 := Gr.loc g0 nw234 g279
        have gl258 := Gr.at1 gl258 (by simp) g279
        exact hN254 _ _ _ ⟨rfl, gl258, h280⟩ hm
      have hm := ifF e259 (wp_iteB hm)
      exact rd_next (hN254 _ _ _ ⟨rfl, gl258, h251⟩ hm)
    obtain ⟨rfl, g281, h282⟩ := hr257
    have h31 := Imm.mono g281 h31
    have h59 := Imm.mono g281 h59
    have h104 := Imm.mono g281 h104
    have g0 := Gr.many g0 (all1 ((.inr nw234)) all0) g281
    refine seq_joinL (t := tFor _ _ _) (wp_le hm) (fun (s : Unit) (σ : L2.St) (H : Hp) => ∃ (o290 : Option V), σ = [some (.ref p_script), some (.ref p4), some (.int t9.1.1), some x17, some (.int (((t9.1.2).length : Int) - (1 : Int))), some (.ref p22), some w58, some (.int s63.1), some w97, o99, some v103, o171, some (.ref p229), o290, none] ∧ Gr [] H256 H) (fun N284 hm => ?_) (fun s286 σ H287 hr288 hm => ?_)
    · have gl289 := Gr.refl (A := []) H256
      obtain ⟨vs295, hl296, hp297⟩ := id (Ls.q h282)
      have gl298 := Gr.refl (A := []) H256
      refine rd_for (rd_il (rd_var rfl ⟨_, rfl, ⟨_, hl296⟩, for_lstL (r := (DatM.rD K)) (H0 := H256) (fun (s : Unit) (σ : L2.St) (H : Hp) => ∃ (o290 : Option V), σ = [some (.ref p_script), some (.ref p4), some (.int t9.1.1), some x17, some (.int (((t9.1.2).length : Int) - (1 : Int))), some (.ref p22), some w58, some (.int s63.1), some w97, o99, some v103, o171, some (.ref p229), o290, none] ∧ Gr [] H256 H) hp297 (by exact wp_imp hm (fun o ho => leP_imp ho (fun s hz σ' H' hr => hz σ' H' hr) (fun _ h => h)) (fun _ e => e)) ⟨_, rfl, gl298⟩ (fun _ _ _ hr => by obtain ⟨_, _, g⟩ := hr; exact g.lst nin0 hl296) (fun x299 v300 s291 σ H292 N294 hx301 hr293 hm => ?_)⟩))
      unfold m_law_b3 at hm
      obtain ⟨o304, rfl, g303⟩ := hr293
      have h31 := Imm.mono g303 h31
      have h59 := Imm.mono g303 h59
      have h104 := Imm.mono g303 h104
      have h282 := Ls.gA g303 nin0 h282
      have g0 := Gr.of0' g0 g303
      have gl298 := Gr.of0' gl298 g303
      have hx301 := Imm.mono g303 hx301
      have h305 := (show DatM.rD K H292 (PyData.tuple (s41.map PyData.int)) w58 from ((DatM.d_T (f := PyData.int) (fun z => DatM.d_I z)) (h59)))
      refine rd_gn (rd_if (rd_T (rd_op (rd_call (rd_cons (rd_var rfl (rd_cons (rd_var rfl (rd_cons (rd_var rfl (rd_nil ⟨_, _, _, _, _, _, rfl, h31, h305, hx301, wp_imp (wp_bind hm) (fun t306 hm H307 g308 => ?_) (fun _ e => False.elim e)⟩)))))))))))
      have h31 := Imm.mono g308 h31
      have h59 := Imm.mono g308 h59
      have h104 := Imm.mono g308 h104
      have h282 := Ls.g0 g308 h282
      have hx301 := Imm.mono g308 hx301
      have g0 := g0.of0' g308
      have gl298 := gl298.of0' g308
      refine rd_c (DatM.isnB (rd_kB ?_))
      refine iteB (fun e309 => ?_) (fun e309 => ?_)
      · have hm := ifT e309 (wp_iteB hm)
        exact rd_ret (rd_c (hm _ g0))
      have hm := ifF e309 (wp_iteB hm)
      exact rd_next (hm _ _ ⟨_, rfl, gl298⟩)
    obtain ⟨o311, rfl, g310⟩ := hr288
    have h31 := Imm.mono g310 h31
    have h59 := Imm.mono g310 h59
    have h104 := Imm.mono g310 h104
    have h282 := Ls.gA g310 nin0 h282
    have g0 := Gr.of0' g0 g310
    refine seq_joinL (t := tFor _ _ _) (wp_le hm) (fun (s : Unit) (σ : L2.St) (H : Hp) => ∃ (o319 : Option V), σ = [some (.ref p_script), some (.ref p4), some (.int t9.1.1), some x17, some (.int (((t9.1.2).length : Int) - (1 : Int))), some (.ref p22), some w58, some (.int s63.1), some w97, o99, some v103, o171, some (.ref p229), o311, o319] ∧ Gr [] H287 H) (fun N313 hm => ?_) (fun s315 σ H316 hr317 hm => ?_)
    · have gl318 := Gr.refl (A := []) H287
      refine rd_for (rd_il (rd_lst (rd_cons (rd_meth (rd_var rfl (meth_Field h31 (by decide +kernel) (rd_nil ⟨_, _, rfl, h31, wp_imp (wp_bind hm) (fun t324 hm v327 H325 g326 h328 => ?_) (fun _ e => e)⟩)))))))
      have h31 := Imm.mono g326 h31
      have h59 := Imm.mono g326 h59
      have h104 := Imm.mono g326 h104
      have g0 := g0.of0' g326
      have gl318 := gl318.of0' g326
      have h329 := (show DatM.rD K H325 (PyData.tuple (t324.map PyData.int)) v327 from ((DatM.d_T (f := PyData.int) (fun z => DatM.d_I z)) (h328)))
      have h330 := (show DatM.rD K H325 PyData.none .non from DatM.d_non)
      refine rd_cons (rd_c (rd_cons (rd_op (rd_var rfl (rd_tup (rd_cons (rd_c (rd_nil (mk_T (K := K) (r := rI) (xs := [(0 : Int)]) (.cons rfl .nil) (by show 1 ≤ sizeLine; decide) fun v331 H332 g333 h334 => ?_)))))))))
      have h31 := Imm.mono g333 h31
      have h59 := Imm.mono g333 h59
      have h104 := Imm.mono g333 h104
      have h329 := Imm.mono g333 h329
      have h330 := Imm.mono g333 h330
      have g0 := g0.of0' g333
      have gl318 := gl318.of0' g333
      obtain ⟨c335, hm⟩ := wp_grd hm
      refine cat_TA h59 h334 c335 fun v336 H337 g338 h339 => ?_
      have h31 := Imm.mono g338 h31
      have h59 := Imm.mono g338 h59
      have h104 := Imm.mono g338 h104
      have h329 := Imm.mono g338 h329
      have h330 := Imm.mono g338 h330
      have g0 := g0.of0' g338
      have gl318 := gl318.of0' g338
      have h340 := (show DatM.rD K H337 (PyData.tuple ((s41 ++ [(0 : Int)]).map PyData.int)) v336 from ((DatM.d_T (f := PyData.int) (fun z => DatM.d_I z)) (h339)))
      refine rd_cons (rd_frzE (rd_cb (rd_cons (rd_var rfl (rd_nil (lst_of_T h59 fun p341 H342 n343 g344 h345 => ?_))))))
      have nw346 := Gr.free g0 n343
      have nw347 := Gr.free gl318 n343
      have h31 := Imm.mono g344 h31
      have h59 := Imm.mono g344 h59
      have h104 := Imm.mono g344 h104
      have h329 := Imm.mono g344 h329
      have h330 := Imm.mono g344 h330
      have h340 := Imm.mono g344 h340
      have g0 := g0.of0' g344
      have gl318 := gl318.of0' g344
      refine fz_L h345 fun H348 f349 h350 => ?_
      have h31 := Imm.im f349.im h31
      have h59 := Imm.im f349.im h59
      have h104 := Imm.im f349.im h104
      have h329 := Imm.im f349.im h329
      have h330 := Imm.im f349.im h330
      have h340 := Imm.im f349.im h340
      have g0 := Gr.fz g0 nw346 f349
      have gl318 := Gr.fz gl318 nw347 f349
      have h351 := (show DatM.rD K H348 (PyData.list (s41.map PyData.int)) (.ref p341) from ((DatM.d_Z (f := PyData.int) (fun z => DatM.d_I z)) (h350)))
      have h352 := (show DatM.rD K H348 (PyData.int (1 : Int)) (.int (1 : Int)) from (DatM.d_I (rfl : rI H348 (1 : Int) (.int (1 : Int)))))
      refine rd_cons (rd_c (rd_nil (mk_L (r := (DatM.rD K)) (xs := [(PyData.tuple (t324.map PyData.int)), PyData.none, (PyData.tuple ((s41 ++ [(0 : Int)]).map PyData.int)), (PyData.list (s41.map PyData.int)), (PyData.int (1 : Int))]) (.cons h329 (.cons h330 (.cons h340 (.cons h351 (.cons h352 .nil))))) (by show 5 ≤ sizeLine; decide) fun p353 H354 n355 g356 h357 => ?_)))
      have nw358 := Gr.free g0 n355
      have nw359 := Gr.free gl318 n355
      have h31 := Imm.mono g356 h31
      have h59 := Imm.mono g356 h59
      have h104 := Imm.mono g356 h104
      have g0 := g0.of0' g356
      have gl318 := gl318.of0' g356
      obtain ⟨vs360, hl361, hp362⟩ := id (Ls.q h357)
      have gl364 := Gr.refl (A := []) H354
      refine ⟨_, rfl, ⟨_, hl361⟩, for_lstL (r := (DatM.rD K)) (H0 := H354) (fun (s : Unit) (σ : L2.St) (H : Hp) => ∃ (o363 : Option V), σ = [some (.ref p_script), some (.ref p4), some (.int t9.1.1), some x17, some (.int (((t9.1.2).length : Int) - (1 : Int))), some (.ref p22), some w58, some (.int s63.1), some w97, o99, some v103, o171, some (.ref p229), o311, o363] ∧ Gr [] H354 H) hp362 (by exact wp_imp hm (fun o ho => leP_imp ho (fun s hz σ' H' hr => hz σ' H' (by obtain ⟨w0, e, g⟩ := hr; exact ⟨w0, e, gl318.trans g⟩)) (fun _ h => h)) (fun _ e => e)) ⟨_, rfl, gl364⟩ (fun _ _ _ hr => by obtain ⟨_, _, g⟩ := hr; exact g.lst nin0 hl361) (fun x365 v366 s320 σ H321 N323 hx367 hr322 hm => ?_)⟩
      unfold m_law_b4 at hm
      obtain ⟨o370, rfl, g369⟩ := hr322
      have h31 := Imm.mono g369 h31
      have h59 := Imm.mono g369 h59
      have h104 := Imm.mono g369 h104
      have g0 := Gr.of0' g0 g369
      have gl364 := Gr.of0' gl364 g369
      have hx367 := Imm.mono g369 hx367
      have h371 := (show DatM.rD K H321 (PyData.tuple [(PyData.str t100.1), (PyData.int t100.2.1), (PyData.tuple (t100.2.2.map PyData.int))]) v103 from ((DatM.d_P3 (f := PyData.str) (g := PyData.int) (k := (fun xs => PyData.tuple (xs.map PyData.int))) (fun z => DatM.d_S z) (fun z => DatM.d_I z) (fun z => (DatM.d_T (f := PyData.int) (fun z => DatM.d_I z)) z)) (h104)))
      refine rd_gn (rd_if (rd_T (rd_op (rd_call (rd_cons (rd_var rfl (rd_cons (rd_var rfl (rd_cons (rd_var rfl (rd_nil ⟨_, _, _, _, _, _, rfl, h31, hx367, h371, wp_imp (wp_bind hm) (fun t372 hm H373 g374 => ?_) (fun _ e => False.elim e)⟩)))))))))))
      have h31 := Imm.mono g374 h31
      have h59 := Imm.mono g374 h59
      have h104 := Imm.mono g374 h104
      have hx367 := Imm.mono g374 hx367
      have g0 := g0.of0' g374
      have gl364 := gl364.of0' g374
      refine rd_c (DatM.isnB (rd_kB ?_))
      refine iteB (fun e375 => ?_) (fun e375 => ?_)
      · have hm := ifT e375 (wp_iteB hm)
        exact rd_ret (rd_c (hm _ g0))
      have hm := ifF e375 (wp_iteB hm)
      exact rd_next (hm _ _ ⟨_, rfl, gl364⟩)
    obtain ⟨o377, rfl, g376⟩ := hr317
    have h31 := Imm.mono g376 h31
    have h59 := Imm.mono g376 h59
    have h104 := Imm.mono g376 h104
    have g0 := Gr.of0' g0 g376
    refine rd_ret (rd_call (rd_cons (rd_var rfl (rd_nil ⟨_, _, rfl, h31, (hTT.gr g0), wp_imp (wp_bind hm) (fun t378 hm H379 g380 => ?_) (fun _ e => e)⟩))))
    have h31 := Imm.mono g380 h31
    have g0 := g0.of0' g380
    exact hm _ g0

theorem all_mk {l : PySem.W.OpenLaw} {w : World} {K : PySem.W.Frag} {h : Heap} {mg : Str → Option Value} {fa f1 f2 f3 f4 f5 f6 f7 f8 f9 f10 f11 f12 f13 f14 f15 f16 f17 f18 f19 f20 f21 f22 f23 f24 f25 f26 f27 f28 f29 f30 f31 f32 f33 f34 f35 f36 f37 f38 f39 f40 f41 f42 f43 f44 f45 f46 f47 f48 f49 f50 f51 f52 : Addr} (X : K.In h) (G : h.Ns mainGlobals mg) (hfa : mg "law" = some (.ref fa))
    {od1 an1 od2 an2 od3 an3 od4 an4 od5 an5 od6 an6 od7 an7 od8 an8 od9 an9 od10 an10 od11 an11 od12 an12 od13 an13 od14 an14 od15 an15 od16 an16 od17 an17 od18 an18 od19 an19 od20 an20 od21 an21 od22 an22 od23 an23 od24 an24 od25 an25 od26 an26 od27 an27 od28 an28 od29 an29 od30 an30 od31 an31 od32 an32 od33 an33 od34 an34 od35 an35 od36 an36 od37 an37 od38 an38 od39 an39 od40 an40 od41 an41 od42 an42 od43 an43 od44 an44 od45 an45 od46 an46 od47 an47 od48 an48 od49 an49 od50 an50 od51 an51 od52 an52 : Option Addr} {sl1 sl2 sl3 sl4 sl5 sl6 sl7 sl8 sl9 sl10 sl11 sl12 sl13 sl14 sl15 sl16 sl17 sl18 sl19 sl20 sl21 sl22 sl23 sl24 sl25 sl26 sl27 sl28 sl29 sl30 sl31 sl32 sl33 sl34 sl35 sl36 sl37 sl38 sl39 sl40 sl41 sl42 sl43 sl44 sl45 sl46 sl47 sl48 sl49 sl50 sl51 sl52 : Array (Option Value)} {oc1 kV1 dc1 pm1 ct1 cd1 oc2 kV2 dc2 pm2 ct2 cd2 oc3 kV3 dc3 pm3 ct3 cd3 oc4 kV4 dc4 pm4 ct4 cd4 oc5 kV5 dc5 pm5 ct5 cd5 oc6 kV6 dc6 pm6 ct6 cd6 oc7 kV7 dc7 pm7 ct7 cd7 oc8 kV8 dc8 pm8 ct8 cd8 oc9 kV9 dc9 pm9 ct9 cd9 oc10 kV10 dc10 pm10 ct10 cd10 oc11 kV11 dc11 pm11 ct11 cd11 oc12 kV12 dc12 pm12 ct12 cd12 oc13 kV13 dc13 pm13 ct13 cd13 oc14 kV14 dc14 pm14 ct14 cd14 oc15 kV15 dc15 pm15 ct15 cd15 oc16 kV16 dc16 pm16 ct16 cd16 oc17 kV17 dc17 pm17 ct17 oc18 kV18 dc18 pm18 ct18 cd18 oc19 kV19 dc19 pm19 ct19 cd19 oc20 kV20 dc20 pm20 ct20 cd20 oc21 kV21 dc21 pm21 ct21 cd21 oc22 kV22 dc22 pm22 ct22 cd22 oc23 kV23 dc23 pm23 ct23 cd23 oc24 kV24 dc24 pm24 ct24 cd24 oc25 kV25 dc25 pm25 ct25 cd25 oc26 kV26 dc26 pm26 ct26 cd26 oc27 kV27 dc27 pm27 ct27 cd27 oc28 kV28 dc28 pm28 ct28 cd28 oc29 kV29 dc29 pm29 ct29 cd29 oc30 kV30 dc30 pm30 ct30 cd30 oc31 kV31 dc31 pm31 ct31 cd31 oc32 kV32 dc32 pm32 ct32 cd32 oc33 kV33 dc33 pm33 ct33 cd33 oc34 kV34 dc34 pm34 ct34 cd34 oc35 kV35 dc35 pm35 ct35 cd35 oc36 kV36 dc36 pm36 ct36 cd36 oc37 kV37 dc37 pm37 ct37 cd37 oc38 kV38 dc38 pm38 ct38 cd38 oc39 kV39 dc39 pm39 ct39 cd39 oc40 kV40 dc40 pm40 ct40 cd40 oc41 kV41 dc41 pm41 ct41 cd41 oc42 kV42 dc42 pm42 ct42 oc43 kV43 dc43 pm43 ct43 cd43 oc44 kV44 dc44 pm44 ct44 cd44 oc45 kV45 dc45 pm45 ct45 cd45 oc46 kV46 dc46 pm46 ct46 cd46 oc47 kV47 dc47 pm47 ct47 cd47 oc48 kV48 dc48 pm48 ct48 cd48 oc49 kV49 dc49 pm49 ct49 cd49 oc50 kV50 dc50 pm50 ct50 cd50 oc51 kV51 dc51 pm51 ct51 cd51 oc52 kV52 dc52 pm52 ct52 cd52 : Value}
    {cc17 PT17 cc42 PT42 : Addr} {tc17 tc42 : Value} {td17 td42 : Option Addr} {tv17 tv42 : Array Value} {ts17 ts42 : Array (Option Value)}
    {TD30 : Addr} {tt30 : Value} {to30 : Option Addr} {tn30 : Nat} {ts30 : Array (Option Value)} {dA_Field___init___0 : Addr}
    {tk_MOST_MEMBERS : Tok}
    {c_fault c_zd c_mal c_refu c_Field : Addr}
    (a1 : PySem.W.nsIn K mainGlobals "_law_state" = some (some (.ref f1))) (l1 : K.lookup f1 = some ⟨oc1, od1, .func (PySem.W.fnOf "_law_state" "_law_state" (defArgs s__law_state) (defBody s__law_state) (defScope s__law_state) .none kV1 dc1 pm1 an1 cd1 ct1), sl1⟩) (c1 : PySem.W.codeIn K cd1 "_law_state" = true) (k1 : PySem.W.keepIn K (.ref f1) = true)
    (a2 : PySem.W.nsIn K mainGlobals "_law_take" = some (some (.ref f2))) (l2 : K.lookup f2 = some ⟨oc2, od2, .func (PySem.W.fnOf "_law_take" "_law_take" (defArgs s__law_take) (defBody s__law_take) (defScope s__law_take) .none kV2 dc2 pm2 an2 cd2 ct2), sl2⟩) (c2 : PySem.W.codeIn K cd2 "_law_take" = true) (k2 : PySem.W.keepIn K (.ref f2) = true)
    (a3 : PySem.W.nsIn K mainGlobals "_law_is_prime_row" = some (some (.ref f3))) (l3 : K.lookup f3 = some ⟨oc3, od3, .func (PySem.W.fnOf "_law_is_prime_row" "_law_is_prime_row" (defArgs s__law_is_prime_row) (defBody s__law_is_prime_row) (defScope s__law_is_prime_row) .none kV3 dc3 pm3 an3 cd3 ct3), sl3⟩) (c3 : PySem.W.codeIn K cd3 "_law_is_prime_row" = true) (k3 : PySem.W.keepIn K (.ref f3) = true)
    (a4 : PySem.W.nsIn K mainGlobals "_law_modulus" = some (some (.ref f4))) (l4 : K.lookup f4 = some ⟨oc4, od4, .func (PySem.W.fnOf "_law_modulus" "_law_modulus" (defArgs s__law_modulus) (defBody s__law_modulus) (defScope s__law_modulus) .none kV4 dc4 pm4 an4 cd4 ct4), sl4⟩) (c4 : PySem.W.codeIn K cd4 "_law_modulus" = true) (k4 : PySem.W.keepIn K (.ref f4) = true)
    (a5 : PySem.W.nsIn K mainGlobals "_law_pair" = some (some (.ref f5))) (l5 : K.lookup f5 = some ⟨oc5, od5, .func (PySem.W.fnOf "_law_pair" "_law_pair" (defArgs s__law_pair) (defBody s__law_pair) (defScope s__law_pair) .none kV5 dc5 pm5 an5 cd5 ct5), sl5⟩) (c5 : PySem.W.codeIn K cd5 "_law_pair" = true) (k5 : PySem.W.keepIn K (.ref f5) = true)
    (a6 : PySem.W.nsIn K mainGlobals "is_integer" = some (some (.ref f6))) (l6 : K.lookup f6 = some ⟨oc6, od6, .func (PySem.W.fnOf "is_integer" "is_integer" (defArgs s_is_integer) (defBody s_is_integer) (defScope s_is_integer) .none kV6 dc6 pm6 an6 cd6 ct6), sl6⟩) (c6 : PySem.W.codeIn K cd6 "is_integer" = true) (k6 : PySem.W.keepIn K (.ref f6) = true)
    (a7 : PySem.W.nsIn K mainGlobals "least_divisor" = some (some (.ref f7))) (l7 : K.lookup f7 = some ⟨oc7, od7, .func (PySem.W.fnOf "least_divisor" "least_divisor" (defArgs s_least_divisor) (defBody s_least_divisor) (defScope s_least_divisor) .none kV7 dc7 pm7 an7 cd7 ct7), sl7⟩) (c7 : PySem.W.codeIn K cd7 "least_divisor" = true) (k7 : PySem.W.keepIn K (.ref f7) = true)
    (a8 : PySem.W.nsIn K mainGlobals "is_prime" = some (some (.ref f8))) (l8 : K.lookup f8 = some ⟨oc8, od8, .func (PySem.W.fnOf "is_prime" "is_prime" (defArgs s_is_prime) (defBody s_is_prime) (defScope s_is_prime) .none kV8 dc8 pm8 an8 cd8 ct8), sl8⟩) (c8 : PySem.W.codeIn K cd8 "is_prime" = true) (k8 : PySem.W.keepIn K (.ref f8) = true)
    (a9 : PySem.W.nsIn K mainGlobals "power_within" = some (some (.ref f9))) (l9 : K.lookup f9 = some ⟨oc9, od9, .func (PySem.W.fnOf "power_within" "power_within" (defArgs s_power_within) (defBody s_power_within) (defScope s_power_within) .none kV9 dc9 pm9 an9 cd9 ct9), sl9⟩) (c9 : PySem.W.codeIn K cd9 "power_within" = true) (k9 : PySem.W.keepIn K (.ref f9) = true)
    (a10 : PySem.W.nsIn K mainGlobals "cofactors" = some (some (.ref f10))) (l10 : K.lookup f10 = some ⟨oc10, od10, .func (PySem.W.fnOf "cofactors" "cofactors" (defArgs s_cofactors) (defBody s_cofactors) (defScope s_cofactors) .none kV10 dc10 pm10 an10 cd10 ct10), sl10⟩) (c10 : PySem.W.codeIn K cd10 "cofactors" = true) (k10 : PySem.W.keepIn K (.ref f10) = true)
    (a11 : PySem.W.nsIn K mainGlobals "inverse_modulo" = some (some (.ref f11))) (l11 : K.lookup f11 = some ⟨oc11, od11, .func (PySem.W.fnOf "inverse_modulo" "inverse_modulo" (defArgs s_inverse_modulo) (defBody s_inverse_modulo) (defScope s_inverse_modulo) .none kV11 dc11 pm11 an11 cd11 ct11), sl11⟩) (c11 : PySem.W.codeIn K cd11 "inverse_modulo" = true) (k11 : PySem.W.keepIn K (.ref f11) = true)
    (a12 : PySem.W.nsIn K mainGlobals "without_end" = some (some (.ref f12))) (l12 : K.lookup f12 = some ⟨oc12, od12, .func (PySem.W.fnOf "without_end" "without_end" (defArgs s_without_end) (defBody s_without_end) (defScope s_without_end) .none kV12 dc12 pm12 an12 cd12 ct12), sl12⟩) (c12 : PySem.W.codeIn K cd12 "without_end" = true) (k12 : PySem.W.keepIn K (.ref f12) = true)
    (a13 : PySem.W.nsIn K mainGlobals "trimmed" = some (some (.ref f13))) (l13 : K.lookup f13 = some ⟨oc13, od13, .func (PySem.W.fnOf "trimmed" "trimmed" (defArgs s_trimmed) (defBody s_trimmed) (defScope s_trimmed) .none kV13 dc13 pm13 an13 cd13 ct13), sl13⟩) (c13 : PySem.W.codeIn K cd13 "trimmed" = true) (k13 : PySem.W.keepIn K (.ref f13) = true)
    (a14 : PySem.W.nsIn K mainGlobals "divide_rows" = some (some (.ref f14))) (l14 : K.lookup f14 = some ⟨oc14, od14, .func (PySem.W.fnOf "divide_rows" "divide_rows" (defArgs s_divide_rows) (defBody s_divide_rows) (defScope s_divide_rows) .none kV14 dc14 pm14 an14 cd14 ct14), sl14⟩) (c14 : PySem.W.codeIn K cd14 "divide_rows" = true) (k14 : PySem.W.keepIn K (.ref f14) = true)
    (a15 : PySem.W.nsIn K mainGlobals "multiply_rows" = some (some (.ref f15))) (l15 : K.lookup f15 = some ⟨oc15, od15, .func (PySem.W.fnOf "multiply_rows" "multiply_rows" (defArgs s_multiply_rows) (defBody s_multiply_rows) (defScope s_multiply_rows) .none kV15 dc15 pm15 an15 cd15 ct15), sl15⟩) (c15 : PySem.W.codeIn K cd15 "multiply_rows" = true) (k15 : PySem.W.keepIn K (.ref f15) = true)
    (a16 : PySem.W.nsIn K mainGlobals "by_squaring" = some (some (.ref f16))) (l16 : K.lookup f16 = some ⟨oc16, od16, .func (PySem.W.fnOf "by_squaring" "by_squaring" (defArgs s_by_squaring) (defBody s_by_squaring) (defScope s_by_squaring) .none kV16 dc16 pm16 an16 cd16 ct16), sl16⟩) (c16 : PySem.W.codeIn K cd16 "by_squaring" = true) (k16 : PySem.W.keepIn K (.ref f16) = true)
    (a17 : PySem.W.nsIn K mainGlobals "power_row" = some (some (.ref f17))) (l17 : K.lookup f17 = some ⟨oc17, od17, .func (PySem.W.fnOf "power_row" "power_row" (defArgs s_power_row) (defBody s_power_row) (defScope s_power_row) .none kV17 dc17 pm17 an17 (.ref cc17) ct17), sl17⟩) (c17 : PySem.W.codeIn K (.ref cc17) "power_row" = true) (k17 : PySem.W.keepIn K (.ref f17) = true)
    (a18 : PySem.W.nsIn K mainGlobals "filled_up" = some (some (.ref f18))) (l18 : K.lookup f18 = some ⟨oc18, od18, .func (PySem.W.fnOf "filled_up" "filled_up" (defArgs s_filled_up) (defBody s_filled_up) (defScope s_filled_up) .none kV18 dc18 pm18 an18 cd18 ct18), sl18⟩) (c18 : PySem.W.codeIn K cd18 "filled_up" = true) (k18 : PySem.W.keepIn K (.ref f18) = true)
    (a19 : PySem.W.nsIn K mainGlobals "add_rows" = some (some (.ref f19))) (l19 : K.lookup f19 = some ⟨oc19, od19, .func (PySem.W.fnOf "add_rows" "add_rows" (defArgs s_add_rows) (defBody s_add_rows) (defScope s_add_rows) .none kV19 dc19 pm19 an19 cd19 ct19), sl19⟩) (c19 : PySem.W.codeIn K cd19 "add_rows" = true) (k19 : PySem.W.keepIn K (.ref f19) = true)
    (a20 : PySem.W.nsIn K mainGlobals "subtract_rows" = some (some (.ref f20))) (l20 : K.lookup f20 = some ⟨oc20, od20, .func (PySem.W.fnOf "subtract_rows" "subtract_rows" (defArgs s_subtract_rows) (defBody s_subtract_rows) (defScope s_subtract_rows) .none kV20 dc20 pm20 an20 cd20 ct20), sl20⟩) (c20 : PySem.W.codeIn K cd20 "subtract_rows" = true) (k20 : PySem.W.keepIn K (.ref f20) = true)
    (a21 : PySem.W.nsIn K mainGlobals "common_row" = some (some (.ref f21))) (l21 : K.lookup f21 = some ⟨oc21, od21, .func (PySem.W.fnOf "common_row" "common_row" (defArgs s_common_row) (defBody s_common_row) (defScope s_common_row) .none kV21 dc21 pm21 an21 cd21 ct21), sl21⟩) (c21 : PySem.W.codeIn K cd21 "common_row" = true) (k21 : PySem.W.keepIn K (.ref f21) = true)
    (a22 : PySem.W.nsIn K mainGlobals "is_irreducible_row" = some (some (.ref f22))) (l22 : K.lookup f22 = some ⟨oc22, od22, .func (PySem.W.fnOf "is_irreducible_row" "is_irreducible_row" (defArgs s_is_irreducible_row) (defBody s_is_irreducible_row) (defScope s_is_irreducible_row) .none kV22 dc22 pm22 an22 cd22 ct22), sl22⟩) (c22 : PySem.W.codeIn K cd22 "is_irreducible_row" = true) (k22 : PySem.W.keepIn K (.ref f22) = true)
    (a23 : PySem.W.nsIn K mainGlobals "check_making" = some (some (.ref f23))) (l23 : K.lookup f23 = some ⟨oc23, od23, .func (PySem.W.fnOf "check_making" "check_making" (defArgs s_check_making) (defBody s_check_making) (defScope s_check_making) .none kV23 dc23 pm23 an23 cd23 ct23), sl23⟩) (c23 : PySem.W.codeIn K cd23 "check_making" = true) (k23 : PySem.W.keepIn K (.ref f23) = true)
    (a24 : PySem.W.nsIn K mainGlobals "digits" = some (some (.ref f24))) (l24 : K.lookup f24 = some ⟨oc24, od24, .func (PySem.W.fnOf "digits" "digits" (defArgs s_digits) (defBody s_digits) (defScope s_digits) .none kV24 dc24 pm24 an24 cd24 ct24), sl24⟩) (c24 : PySem.W.codeIn K cd24 "digits" = true) (k24 : PySem.W.keepIn K (.ref f24) = true)
    (a25 : PySem.W.nsIn K mainGlobals "powers_of" = some (some (.ref f25))) (l25 : K.lookup f25 = some ⟨oc25, od25, .func (PySem.W.fnOf "powers_of" "powers_of" (defArgs s_powers_of) (defBody s_powers_of) (defScope s_powers_of) .none kV25 dc25 pm25 an25 cd25 ct25), sl25⟩) (c25 : PySem.W.codeIn K cd25 "powers_of" = true) (k25 : PySem.W.keepIn K (.ref f25) = true)
    (a26 : PySem.W.nsIn K mainGlobals "primitive_powers" = some (some (.ref f26))) (l26 : K.lookup f26 = some ⟨oc26, od26, .func (PySem.W.fnOf "primitive_powers" "primitive_powers" (defArgs s_primitive_powers) (defBody s_primitive_powers) (defScope s_primitive_powers) .none kV26 dc26 pm26 an26 cd26 ct26), sl26⟩) (c26 : PySem.W.codeIn K cd26 "primitive_powers" = true) (k26 : PySem.W.keepIn K (.ref f26) = true)
    (a27 : PySem.W.nsIn K mainGlobals "written_power" = some (some (.ref f27))) (l27 : K.lookup f27 = some ⟨oc27, od27, .func (PySem.W.fnOf "written_power" "written_power" (defArgs s_written_power) (defBody s_written_power) (defScope s_written_power) .none kV27 dc27 pm27 an27 cd27 ct27), sl27⟩) (c27 : PySem.W.codeIn K cd27 "written_power" = true) (k27 : PySem.W.keepIn K (.ref f27) = true)
    (a28 : PySem.W.nsIn K mainGlobals "written_term" = some (some (.ref f28))) (l28 : K.lookup f28 = some ⟨oc28, od28, .func (PySem.W.fnOf "written_term" "written_term" (defArgs s_written_term) (defBody s_written_term) (defScope s_written_term) .none kV28 dc28 pm28 an28 cd28 ct28), sl28⟩) (c28 : PySem.W.codeIn K cd28 "written_term" = true) (k28 : PySem.W.keepIn K (.ref f28) = true)
    (a29 : PySem.W.findIn K (.ref c_Field) "written" = some (some (.ref f29))) (i29 : PySem.W.isFn K (.ref f29) = true)
    (l29 : K.lookup f29 = some ⟨oc29, od29, .func (PySem.W.fnOf "written" "Field.written" (defArgs s_Field_written) (defBody s_Field_written) (defScope s_Field_written) .none kV29 dc29 pm29 an29 cd29 ct29), sl29⟩) (c29 : PySem.W.codeIn K cd29 "Field.written" = true) (k29 : PySem.W.keepIn K (.ref f29) = true)
    (a30 : PySem.W.findIn K (.ref c_Field) "__init__" = some (some (.ref f30))) (i30 : PySem.W.isFn K (.ref f30) = true)
    (l30 : K.lookup f30 = some ⟨oc30, od30, .func (PySem.W.fnOf "__init__" "Field.__init__" (defArgs s_Field___init__) (defBody s_Field___init__) (defScope s_Field___init__) (.ref TD30) kV30 dc30 pm30 an30 cd30 ct30), sl30⟩) (c30 : PySem.W.codeIn K cd30 "Field.__init__" = true) (k30 : PySem.W.keepIn K (.ref f30) = true)
    (d30 : K.lookup TD30 = some ⟨tt30, to30, .seq #[(.ref dA_Field___init___0)] tn30, ts30⟩)
    (a31 : PySem.W.nsIn K mainGlobals "_law_member" = some (some (.ref f31))) (l31 : K.lookup f31 = some ⟨oc31, od31, .func (PySem.W.fnOf "_law_member" "_law_member" (defArgs s__law_member) (defBody s__law_member) (defScope s__law_member) .none kV31 dc31 pm31 an31 cd31 ct31), sl31⟩) (c31 : PySem.W.codeIn K cd31 "_law_member" = true) (k31 : PySem.W.keepIn K (.ref f31) = true)
    (a32 : PySem.W.nsIn K mainGlobals "_law_zero" = some (some (.ref f32))) (l32 : K.lookup f32 = some ⟨oc32, od32, .func (PySem.W.fnOf "_law_zero" "_law_zero" (defArgs s__law_zero) (defBody s__law_zero) (defScope s__law_zero) .none kV32 dc32 pm32 an32 cd32 ct32), sl32⟩) (c32 : PySem.W.codeIn K cd32 "_law_zero" = true) (k32 : PySem.W.keepIn K (.ref f32) = true)
    (a33 : PySem.W.nsIn K mainGlobals "_law_one" = some (some (.ref f33))) (l33 : K.lookup f33 = some ⟨oc33, od33, .func (PySem.W.fnOf "_law_one" "_law_one" (defArgs s__law_one) (defBody s__law_one) (defScope s__law_one) .none kV33 dc33 pm33 an33 cd33 ct33), sl33⟩) (c33 : PySem.W.codeIn K cd33 "_law_one" = true) (k33 : PySem.W.keepIn K (.ref f33) = true)
    (a34 : PySem.W.nsIn K mainGlobals "_law_reduce" = some (some (.ref f34))) (l34 : K.lookup f34 = some ⟨oc34, od34, .func (PySem.W.fnOf "_law_reduce" "_law_reduce" (defArgs s__law_reduce) (defBody s__law_reduce) (defScope s__law_reduce) .none kV34 dc34 pm34 an34 cd34 ct34), sl34⟩) (c34 : PySem.W.codeIn K cd34 "_law_reduce" = true) (k34 : PySem.W.keepIn K (.ref f34) = true)
    (a35 : PySem.W.nsIn K mainGlobals "_law_multiply" = some (some (.ref f35))) (l35 : K.lookup f35 = some ⟨oc35, od35, .func (PySem.W.fnOf "_law_multiply" "_law_multiply" (defArgs s__law_multiply) (defBody s__law_multiply) (defScope s__law_multiply) .none kV35 dc35 pm35 an35 cd35 ct35), sl35⟩) (c35 : PySem.W.codeIn K cd35 "_law_multiply" = true) (k35 : PySem.W.keepIn K (.ref f35) = true)
    (a36 : PySem.W.findIn K (.ref c_Field) "zero" = some (some (.ref f36))) (i36 : PySem.W.isFn K (.ref f36) = true)
    (l36 : K.lookup f36 = some ⟨oc36, od36, .func (PySem.W.fnOf "zero" "Field.zero" (defArgs s_Field_zero) (defBody s_Field_zero) (defScope s_Field_zero) .none kV36 dc36 pm36 an36 cd36 ct36), sl36⟩) (c36 : PySem.W.codeIn K cd36 "Field.zero" = true) (k36 : PySem.W.keepIn K (.ref f36) = true)
    (a37 : PySem.W.nsIn K mainGlobals "check_not_zero" = some (some (.ref f37))) (l37 : K.lookup f37 = some ⟨oc37, od37, .func (PySem.W.fnOf "check_not_zero" "check_not_zero" (defArgs s_check_not_zero) (defBody s_check_not_zero) (defScope s_check_not_zero) .none kV37 dc37 pm37 an37 cd37 ct37), sl37⟩) (c37 : PySem.W.codeIn K cd37 "check_not_zero" = true) (k37 : PySem.W.keepIn K (.ref f37) = true)
    (a38 : PySem.W.findIn K (.ref c_Field) "one" = some (some (.ref f38))) (i38 : PySem.W.isFn K (.ref f38) = true)
    (l38 : K.lookup f38 = some ⟨oc38, od38, .func (PySem.W.fnOf "one" "Field.one" (defArgs s_Field_one) (defBody s_Field_one) (defScope s_Field_one) .none kV38 dc38 pm38 an38 cd38 ct38), sl38⟩) (c38 : PySem.W.codeIn K cd38 "Field.one" = true) (k38 : PySem.W.keepIn K (.ref f38) = true)
    (a39 : PySem.W.findIn K (.ref c_Field) "power" = some (some (.ref f39))) (i39 : PySem.W.isFn K (.ref f39) = true)
    (l39 : K.lookup f39 = some ⟨oc39, od39, .func (PySem.W.fnOf "power" "Field.power" (defArgs s_Field_power) (defBody s_Field_power) (defScope s_Field_power) .none kV39 dc39 pm39 an39 cd39 ct39), sl39⟩) (c39 : PySem.W.codeIn K cd39 "Field.power" = true) (k39 : PySem.W.keepIn K (.ref f39) = true)
    (a40 : PySem.W.nsIn K mainGlobals "prime_powers" = some (some (.ref f40))) (l40 : K.lookup f40 = some ⟨oc40, od40, .func (PySem.W.fnOf "prime_powers" "prime_powers" (defArgs s_prime_powers) (defBody s_prime_powers) (defScope s_prime_powers) .none kV40 dc40 pm40 an40 cd40 ct40), sl40⟩) (c40 : PySem.W.codeIn K cd40 "prime_powers" = true) (k40 : PySem.W.keepIn K (.ref f40) = true)
    (a41 : PySem.W.nsIn K mainGlobals "least_exponent" = some (some (.ref f41))) (l41 : K.lookup f41 = some ⟨oc41, od41, .func (PySem.W.fnOf "least_exponent" "least_exponent" (defArgs s_least_exponent) (defBody s_least_exponent) (defScope s_least_exponent) .none kV41 dc41 pm41 an41 cd41 ct41), sl41⟩) (c41 : PySem.W.codeIn K cd41 "least_exponent" = true) (k41 : PySem.W.keepIn K (.ref f41) = true)
    (a42 : PySem.W.nsIn K mainGlobals "order_of" = some (some (.ref f42))) (l42 : K.lookup f42 = some ⟨oc42, od42, .func (PySem.W.fnOf "order_of" "order_of" (defArgs s_order_of) (defBody s_order_of) (defScope s_order_of) .none kV42 dc42 pm42 an42 (.ref cc42) ct42), sl42⟩) (c42 : PySem.W.codeIn K (.ref cc42) "order_of" = true) (k42 : PySem.W.keepIn K (.ref f42) = true)
    (a43 : PySem.W.nsIn K mainGlobals "prime_divisors" = some (some (.ref f43))) (l43 : K.lookup f43 = some ⟨oc43, od43, .func (PySem.W.fnOf "prime_divisors" "prime_divisors" (defArgs s_prime_divisors) (defBody s_prime_divisors) (defScope s_prime_divisors) .none kV43 dc43 pm43 an43 cd43 ct43), sl43⟩) (c43 : PySem.W.codeIn K cd43 "prime_divisors" = true) (k43 : PySem.W.keepIn K (.ref f43) = true)
    (a44 : PySem.W.nsIn K mainGlobals "order_paper" = some (some (.ref f44))) (l44 : K.lookup f44 = some ⟨oc44, od44, .func (PySem.W.fnOf "order_paper" "order_paper" (defArgs s_order_paper) (defBody s_order_paper) (defScope s_order_paper) .none kV44 dc44 pm44 an44 cd44 ct44), sl44⟩) (c44 : PySem.W.codeIn K cd44 "order_paper" = true) (k44 : PySem.W.keepIn K (.ref f44) = true)
    (a45 : PySem.W.nsIn K mainGlobals "_law_primes" = some (some (.ref f45))) (l45 : K.lookup f45 = some ⟨oc45, od45, .func (PySem.W.fnOf "_law_primes" "_law_primes" (defArgs s__law_primes) (defBody s__law_primes) (defScope s__law_primes) .none kV45 dc45 pm45 an45 cd45 ct45), sl45⟩) (c45 : PySem.W.codeIn K cd45 "_law_primes" = true) (k45 : PySem.W.keepIn K (.ref f45) = true)
    (a46 : PySem.W.nsIn K mainGlobals "is_tuple_of" = some (some (.ref f46))) (l46 : K.lookup f46 = some ⟨oc46, od46, .func (PySem.W.fnOf "is_tuple_of" "is_tuple_of" (defArgs s_is_tuple_of) (defBody s_is_tuple_of) (defScope s_is_tuple_of) .none kV46 dc46 pm46 an46 cd46 ct46), sl46⟩) (c46 : PySem.W.codeIn K cd46 "is_tuple_of" = true) (k46 : PySem.W.keepIn K (.ref f46) = true)
    (a47 : PySem.W.nsIn K mainGlobals "is_paper" = some (some (.ref f47))) (l47 : K.lookup f47 = some ⟨oc47, od47, .func (PySem.W.fnOf "is_paper" "is_paper" (defArgs s_is_paper) (defBody s_is_paper) (defScope s_is_paper) .none kV47 dc47 pm47 an47 cd47 ct47), sl47⟩) (c47 : PySem.W.codeIn K cd47 "is_paper" = true) (k47 : PySem.W.keepIn K (.ref f47) = true)
    (a48 : PySem.W.findIn K (.ref c_Field) "is_member" = some (some (.ref f48))) (i48 : PySem.W.isFn K (.ref f48) = true)
    (l48 : K.lookup f48 = some ⟨oc48, od48, .func (PySem.W.fnOf "is_member" "Field.is_member" (defArgs s_Field_is_member) (defBody s_Field_is_member) (defScope s_Field_is_member) .none kV48 dc48 pm48 an48 cd48 ct48), sl48⟩) (c48 : PySem.W.codeIn K cd48 "Field.is_member" = true) (k48 : PySem.W.keepIn K (.ref f48) = true)
    (a49 : PySem.W.nsIn K mainGlobals "is_positive" = some (some (.ref f49))) (l49 : K.lookup f49 = some ⟨oc49, od49, .func (PySem.W.fnOf "is_positive" "is_positive" (defArgs s_is_positive) (defBody s_is_positive) (defScope s_is_positive) .none kV49 dc49 pm49 an49 cd49 ct49), sl49⟩) (c49 : PySem.W.codeIn K cd49 "is_positive" = true) (k49 : PySem.W.keepIn K (.ref f49) = true)
    (a50 : PySem.W.nsIn K mainGlobals "takes_order" = some (some (.ref f50))) (l50 : K.lookup f50 = some ⟨oc50, od50, .func (PySem.W.fnOf "takes_order" "takes_order" (defArgs s_takes_order) (defBody s_takes_order) (defScope s_takes_order) .none kV50 dc50 pm50 an50 cd50 ct50), sl50⟩) (c50 : PySem.W.codeIn K cd50 "takes_order" = true) (k50 : PySem.W.keepIn K (.ref f50) = true)
    (a51 : PySem.W.nsIn K mainGlobals "_law_refused" = some (some (.ref f51))) (l51 : K.lookup f51 = some ⟨oc51, od51, .func (PySem.W.fnOf "_law_refused" "_law_refused" (defArgs s__law_refused) (defBody s__law_refused) (defScope s__law_refused) .none kV51 dc51 pm51 an51 cd51 ct51), sl51⟩) (c51 : PySem.W.codeIn K cd51 "_law_refused" = true) (k51 : PySem.W.keepIn K (.ref f51) = true)
    (a52 : PySem.W.nsIn K mainGlobals "law" = some (some (.ref f52))) (l52 : K.lookup f52 = some ⟨oc52, od52, .func (PySem.W.fnOf "law" "law" (defArgs s_law) (defBody s_law) (defScope s_law) .none kV52 dc52 pm52 an52 cd52 ct52), sl52⟩) (c52 : PySem.W.codeIn K cd52 "law" = true) (k52 : PySem.W.keepIn K (.ref f52) = true)
    (z_abs : PySem.W.nsIn K mainGlobals "abs" = some none)
    (z_int : PySem.W.nsIn K mainGlobals "int" = some none)
    (z_range : PySem.W.nsIn K mainGlobals "range" = some none)
    (z_len : PySem.W.nsIn K mainGlobals "len" = some none)
    (z_tuple : PySem.W.nsIn K mainGlobals "tuple" = some none)
    (z_isinstance : PySem.W.nsIn K mainGlobals "isinstance" = some none)
    (z_bool : PySem.W.nsIn K mainGlobals "bool" = some none)
    (z_list : PySem.W.nsIn K mainGlobals "list" = some none)
    (z_reversed : PySem.W.nsIn K mainGlobals "reversed" = some none)
    (z_enumerate : PySem.W.nsIn K mainGlobals "enumerate" = some none)
    (z_max : PySem.W.nsIn K mainGlobals "max" = some none)
    (z_zip : PySem.W.nsIn K mainGlobals "zip" = some none)
    (z_all : PySem.W.nsIn K mainGlobals "all" = some none)
    (z_sum : PySem.W.nsIn K mainGlobals "sum" = some none)
    (gn_fault : PySem.W.nsIn K mainGlobals "Fault" = some (some (.ref c_fault)))
    (gn_zd : PySem.W.nsIn K mainGlobals "ZeroDivisor" = some (some (.ref c_zd)))
    (gn_mal : PySem.W.nsIn K mainGlobals "Malformed" = some (some (.ref c_mal)))
    (gn_refu : PySem.W.nsIn K mainGlobals "Refused" = some (some (.ref c_refu)))
    (gn_Field : PySem.W.nsIn K mainGlobals "Field" = some (some (.ref c_Field)))
    (mk_Field : PySem.W.makesIn K c_Field = true)
    (kp_Field : PySem.W.keepIn K (.ref c_Field) = true)
    (xx_zd : PySem.W.excIn K c_zd [.type "ValueError", .type "Exception", .type "BaseException", .type "object"] "ValueError.__new__" = true)
    (xk_zd : PySem.W.keepIn K (.ref c_zd) = true)
    (xb_zd : PySem.W.subIn K (.ref c_zd) (.type "BaseException") = some true)
    (xt_zd : PySem.W.typeIn K (.ref c_zd) = some (.type "type"))
    (xx_mal : PySem.W.excIn K c_mal [.type "ValueError", .type "Exception", .type "BaseException", .type "object"] "ValueError.__new__" = true)
    (xk_mal : PySem.W.keepIn K (.ref c_mal) = true)
    (xb_mal : PySem.W.subIn K (.ref c_mal) (.type "BaseException") = some true)
    (xt_mal : PySem.W.typeIn K (.ref c_mal) = some (.type "type"))
    (gg_MOST_MEMBERS : PySem.W.nsIn K mainGlobals "MOST_MEMBERS" = some (some (.int 400 tk_MOST_MEMBERS)))
    (pg_Field : PySem.W.plainGet K c_Field PySem.Str.empty = true)
    (hd_Field : PySem.W.hasDictIn K c_Field = true)
    (po_Field : PySem.W.plainOver K c_Field = true)
    (sa_Field : PySem.W.findIn K (.ref c_Field) "__setattr__" = some (some (.builtin "object.__setattr__")))
    (na_Field_n : PySem.W.findIn K (.ref c_Field) "n" = some none)
    (na_Field_p : PySem.W.findIn K (.ref c_Field) "p" = some none)
    (na_Field_modulus : PySem.W.findIn K (.ref c_Field) "modulus" = some none)
    (na_Field_q : PySem.W.findIn K (.ref c_Field) "q" = some none)
    (na_Field__members : PySem.W.findIn K (.ref c_Field) "_members" = some none)
    (na_Field__powers : PySem.W.findIn K (.ref c_Field) "_powers" = some none)
    (na_Field__logarithms : PySem.W.findIn K (.ref c_Field) "_logarithms" = some none)
    (na_Field__texts : PySem.W.findIn K (.ref c_Field) "_texts" = some none)
    (ed_zd : PySem.W.hasDictIn K c_zd = true)
    (ss_zd_zd : PySem.W.subIn K (.ref c_zd) (.ref c_zd) = some true)
    (q17 : K.lookup cc17 = some ⟨tc17, td17, .fields tv17, ts17⟩) (p17 : tv17[11]? = some (.ref PT17)) (h17 : PySem.W.codeHdIn K cc17 PT17 = true) (u17 : K.lookup PT17 = none) (v17 : h.get? PT17 = some { cls := .none, data := .fields #[] })
    (q42 : K.lookup cc42 = some ⟨tc42, td42, .fields tv42, ts42⟩) (p42 : tv42[11]? = some (.ref PT42)) (h42 : PySem.W.codeHdIn K cc42 PT42 = true) (u42 : K.lookup PT42 = none) (v42 : h.get? PT42 = some { cls := .none, data := .fields #[] })
    (hmath : ∀ ns : List Int, ns.length ≤ 63 → m_law ns = R.ok true)
    : LamX.LawAtS l w K CX0 11 63 "script" mg fa h := by
  have e := hfa.symm.trans (PySem.W.mg_of X G a52)
  cases e
  have F1 := fun_mk (st := s__law_state) l1 c1 k1
  have b1 := F1.binds (ps := ["script"]) fun _ _ _ _ _ _ us hl => match us, hl with | [_], _ => rfl
  have F2 := fun_mk (st := s__law_take) l2 c2 k2
  have b2 := F2.binds (ps := ["state", "m"]) fun _ _ _ _ _ _ us hl => match us, hl with | [_, _], _ => rfl
  have F3 := fun_mk (st := s__law_is_prime_row) l3 c3 k3
  have b3 := F3.binds (ps := ["p", "row"]) fun _ _ _ _ _ _ us hl => match us, hl with | [_, _], _ => rfl
  have F4 := fun_mk (st := s__law_modulus) l4 c4 k4
  have b4 := F4.binds (ps := ["state", "p", "n"]) fun _ _ _ _ _ _ us hl => match us, hl with | [_, _, _], _ => rfl
  have F5 := fun_mk (st := s__law_pair) l5 c5 k5
  have b5 := F5.binds (ps := ["state"]) fun _ _ _ _ _ _ us hl => match us, hl with | [_], _ => rfl
  have F6 := fun_mk (st := s_is_integer) l6 c6 k6
  have b6 := F6.binds (ps := ["value"]) fun _ _ _ _ _ _ us hl => match us, hl with | [_], _ => rfl
  have F7 := fun_mk (st := s_least_divisor) l7 c7 k7
  have b7 := F7.binds (ps := ["n", "start"]) fun _ _ _ _ _ _ us hl => match us, hl with | [_, _], _ => rfl
  have F8 := fun_mk (st := s_is_prime) l8 c8 k8
  have b8 := F8.binds (ps := ["n"]) fun _ _ _ _ _ _ us hl => match us, hl with | [_], _ => rfl
  have F9 := fun_mk (st := s_power_within) l9 c9 k9
  have b9 := F9.binds (ps := ["a", "k", "limit"]) fun _ _ _ _ _ _ us hl => match us, hl with | [_, _, _], _ => rfl
  have F10 := fun_mk (st := s_cofactors) l10 c10 k10
  have b10 := F10.binds (ps := ["a", "b"]) fun _ _ _ _ _ _ us hl => match us, hl with | [_, _], _ => rfl
  have F11 := fun_mk (st := s_inverse_modulo) l11 c11 k11
  have b11 := F11.binds (ps := ["a", "m"]) fun _ _ _ _ _ _ us hl => match us, hl with | [_, _], _ => rfl
  have F12 := fun_mk (st := s_without_end) l12 c12 k12
  have b12 := F12.binds (ps := ["items", "zero"]) fun _ _ _ _ _ _ us hl => match us, hl with | [_, _], _ => rfl
  have F13 := fun_mk (st := s_trimmed) l13 c13 k13
  have b13 := F13.binds (ps := ["row", "p"]) fun _ _ _ _ _ _ us hl => match us, hl with | [_, _], _ => rfl
  have F14 := fun_mk (st := s_divide_rows) l14 c14 k14
  have b14 := F14.binds (ps := ["a", "b", "p"]) fun _ _ _ _ _ _ us hl => match us, hl with | [_, _, _], _ => rfl
  have F15 := fun_mk (st := s_multiply_rows) l15 c15 k15
  have b15 := F15.binds (ps := ["a", "b", "p"]) fun _ _ _ _ _ _ us hl => match us, hl with | [_, _, _], _ => rfl
  have F16 := fun_mk (st := s_by_squaring) l16 c16 k16
  have b16 := F16.binds (ps := ["one", "base", "k", "product"]) fun _ _ _ _ _ _ us hl => match us, hl with | [_, _, _, _], _ => rfl
  have F17 := fun_mk (st := s_power_row) l17 c17 k17
  have b17 := F17.binds (ps := ["a", "k", "m", "p"]) fun _ _ _ _ _ _ us hl => match us, hl with | [_, _, _, _], _ => rfl
  have F18 := fun_mk (st := s_filled_up) l18 c18 k18
  have b18 := F18.binds (ps := ["items", "length", "zero"]) fun _ _ _ _ _ _ us hl => match us, hl with | [_, _, _], _ => rfl
  have F19 := fun_mk (st := s_add_rows) l19 c19 k19
  have b19 := F19.binds (ps := ["a", "b", "p"]) fun _ _ _ _ _ _ us hl => match us, hl with | [_, _, _], _ => rfl
  have F20 := fun_mk (st := s_subtract_rows) l20 c20 k20
  have b20 := F20.binds (ps := ["a", "b", "p"]) fun _ _ _ _ _ _ us hl => match us, hl with | [_, _, _], _ => rfl
  have F21 := fun_mk (st := s_common_row) l21 c21 k21
  have b21 := F21.binds (ps := ["a", "b", "p"]) fun _ _ _ _ _ _ us hl => match us, hl with | [_, _, _], _ => rfl
  have F22 := fun_mk (st := s_is_irreducible_row) l22 c22 k22
  have b22 := F22.binds (ps := ["m", "p"]) fun _ _ _ _ _ _ us hl => match us, hl with | [_, _], _ => rfl
  have F23 := fun_mk (st := s_check_making) l23 c23 k23
  have b23 := F23.binds (ps := ["p", "modulus"]) fun _ _ _ _ _ _ us hl => match us, hl with | [_, _], _ => rfl
  have F24 := fun_mk (st := s_digits) l24 c24 k24
  have b24 := F24.binds (ps := ["number", "base", "count"]) fun _ _ _ _ _ _ us hl => match us, hl with | [_, _, _], _ => rfl
  have F25 := fun_mk (st := s_powers_of) l25 c25 k25
  have b25 := F25.binds (ps := ["a", "p", "modulus"]) fun _ _ _ _ _ _ us hl => match us, hl with | [_, _, _], _ => rfl
  have F26 := fun_mk (st := s_primitive_powers) l26 c26 k26
  have b26 := F26.binds (ps := ["members", "p", "modulus"]) fun _ _ _ _ _ _ us hl => match us, hl with | [_, _, _], _ => rfl
  have F27 := fun_mk (st := s_written_power) l27 c27 k27
  have b27 := F27.binds (ps := ["name", "k"]) fun _ _ _ _ _ _ us hl => match us, hl with | [_, _], _ => rfl
  have F28 := fun_mk (st := s_written_term) l28 c28 k28
  have b28 := F28.binds (ps := ["coefficient", "k"]) fun _ _ _ _ _ _ us hl => match us, hl with | [_, _], _ => rfl
  have F29 := fun_mk (st := s_Field_written) l29 c29 k29
  have b29 := F29.binds (ps := ["self", "a"]) fun _ _ _ _ _ _ us hl => match us, hl with | [_, _], _ => rfl
  have F30 : L2.FunD K "__init__" "Field.__init__" (defArgs s_Field___init__) (defBody s_Field___init__) (defScope s_Field___init__) [(.ref dA_Field___init___0)] [] f30 _ := ⟨⟨_, _, _, _, _, _, _, _, _, _, rfl, l30, c30, .inr ⟨by simp, _, _, [(.ref dA_Field___init___0)], _, rfl, d30, rfl, (.cons rfl .nil)⟩, .inl rfl⟩, k30⟩
  have b30 := FunD.all F30 (ps := ["self", "p", "modulus"]) (by simp) fun _ _ _ _ _ _ _ us its hl hi => match us, its, hl, hi with | [_, _, _], [_], _, _ => ⟨_, rfl, rfl⟩
  have F31 := fun_mk (st := s__law_member) l31 c31 k31
  have b31 := F31.binds (ps := ["state", "p", "n"]) fun _ _ _ _ _ _ us hl => match us, hl with | [_, _, _], _ => rfl
  have F32 := fun_mk (st := s__law_zero) l32 c32 k32
  have b32 := F32.binds (ps := ["n"]) fun _ _ _ _ _ _ us hl => match us, hl with | [_], _ => rfl
  have F33 := fun_mk (st := s__law_one) l33 c33 k33
  have b33 := F33.binds (ps := ["n"]) fun _ _ _ _ _ _ us hl => match us, hl with | [_], _ => rfl
  have F34 := fun_mk (st := s__law_reduce) l34 c34 k34
  have b34 := F34.binds (ps := ["row", "p", "modulus"]) fun _ _ _ _ _ _ us hl => match us, hl with | [_, _, _], _ => rfl
  have F35 := fun_mk (st := s__law_multiply) l35 c35 k35
  have b35 := F35.binds (ps := ["p", "modulus", "a", "b"]) fun _ _ _ _ _ _ us hl => match us, hl with | [_, _, _, _], _ => rfl
  have F36 := fun_mk (st := s_Field_zero) l36 c36 k36
  have b36 := F36.binds (ps := ["self"]) fun _ _ _ _ _ _ us hl => match us, hl with | [_], _ => rfl
  have F37 := fun_mk (st := s_check_not_zero) l37 c37 k37
  have b37 := F37.binds (ps := ["field", "a"]) fun _ _ _ _ _ _ us hl => match us, hl with | [_, _], _ => rfl
  have F38 := fun_mk (st := s_Field_one) l38 c38 k38
  have b38 := F38.binds (ps := ["self"]) fun _ _ _ _ _ _ us hl => match us, hl with | [_], _ => rfl
  have F39 := fun_mk (st := s_Field_power) l39 c39 k39
  have b39 := F39.binds (ps := ["self", "a", "k"]) fun _ _ _ _ _ _ us hl => match us, hl with | [_, _, _], _ => rfl
  have F40 := fun_mk (st := s_prime_powers) l40 c40 k40
  have b40 := F40.binds (ps := ["n"]) fun _ _ _ _ _ _ us hl => match us, hl with | [_], _ => rfl
  have F41 := fun_mk (st := s_least_exponent) l41 c41 k41
  have b41 := F41.binds (ps := ["start", "is_one"]) fun _ _ _ _ _ _ us hl => match us, hl with | [_, _], _ => rfl
  have F42 := fun_mk (st := s_order_of) l42 c42 k42
  have b42 := F42.binds (ps := ["field", "a"]) fun _ _ _ _ _ _ us hl => match us, hl with | [_, _], _ => rfl
  have F43 := fun_mk (st := s_prime_divisors) l43 c43 k43
  have b43 := F43.binds (ps := ["n"]) fun _ _ _ _ _ _ us hl => match us, hl with | [_], _ => rfl
  have F44 := fun_mk (st := s_order_paper) l44 c44 k44
  have b44 := F44.binds (ps := ["field", "a"]) fun _ _ _ _ _ _ us hl => match us, hl with | [_, _], _ => rfl
  have F45 := fun_mk (st := s__law_primes) l45 c45 k45
  have b45 := F45.binds (ps := ["m"]) fun _ _ _ _ _ _ us hl => match us, hl with | [_], _ => rfl
  have F46 := fun_mk (st := s_is_tuple_of) l46 c46 k46
  have b46 := F46.binds (ps := ["value", "length"]) fun _ _ _ _ _ _ us hl => match us, hl with | [_, _], _ => rfl
  have F47 := fun_mk (st := s_is_paper) l47 c47 k47
  have b47 := F47.binds (ps := ["value", "word", "length"]) fun _ _ _ _ _ _ us hl => match us, hl with | [_, _, _], _ => rfl
  have F48 := fun_mk (st := s_Field_is_member) l48 c48 k48
  have b48 := F48.binds (ps := ["self", "value"]) fun _ _ _ _ _ _ us hl => match us, hl with | [_, _], _ => rfl
  have F49 := fun_mk (st := s_is_positive) l49 c49 k49
  have b49 := F49.binds (ps := ["value"]) fun _ _ _ _ _ _ us hl => match us, hl with | [_], _ => rfl
  have F50 := fun_mk (st := s_takes_order) l50 c50 k50
  have b50 := F50.binds (ps := ["field", "a", "paper"]) fun _ _ _ _ _ _ us hl => match us, hl with | [_, _, _], _ => rfl
  have F51 := fun_mk (st := s__law_refused) l51 c51 k51
  have b51 := F51.binds (ps := ["field"]) fun _ _ _ _ _ _ us hl => match us, hl with | [_], _ => rfl
  have F52 := fun_mk (st := s_law) l52 c52 k52
  have b52 := F52.binds (ps := ["script"]) fun _ _ _ _ _ _ us hl => match us, hl with | [_], _ => rfl
  have z_abs := PySem.W.mg_none_of X G z_abs
  have z_int := PySem.W.mg_none_of X G z_int
  have z_range := PySem.W.mg_none_of X G z_range
  have z_len := PySem.W.mg_none_of X G z_len
  have z_tuple := PySem.W.mg_none_of X G z_tuple
  have z_isinstance := PySem.W.mg_none_of X G z_isinstance
  have z_bool := PySem.W.mg_none_of X G z_bool
  have z_list := PySem.W.mg_none_of X G z_list
  have z_reversed := PySem.W.mg_none_of X G z_reversed
  have z_enumerate := PySem.W.mg_none_of X G z_enumerate
  have z_max := PySem.W.mg_none_of X G z_max
  have z_zip := PySem.W.mg_none_of X G z_zip
  have z_all := PySem.W.mg_none_of X G z_all
  have z_sum := PySem.W.mg_none_of X G z_sum
  have T17 := funT_mk (st := s_power_row) (PT := PT17) l17 c17
  have T42 := funT_mk (st := s_order_of) (PT := PT42) l42 c42
  refine ⟨PySem.W.fnOf "law" "law" (defArgs s_law) (defBody s_law) (defScope s_law) .none kV52 dc52 pm52 an52 cd52 ct52, [(cc17, PT17), (cc42, PT42)], sp_law K [PT17, PT42], (List.forall_mem_cons.mpr ⟨v17, (List.forall_mem_cons.mpr ⟨v42, (fun _ z => nomatch z)⟩)⟩), (List.forall_mem_cons.mpr ⟨u17, (List.forall_mem_cons.mpr ⟨u42, (fun _ z => nomatch z)⟩)⟩), (List.forall_mem_cons.mpr ⟨PySem.W.codeHd_of_K X h17, (List.forall_mem_cons.mpr ⟨PySem.W.codeHd_of_K X h42, (fun _ z => nomatch z)⟩)⟩), fun s v => .of_eq rfl, fun H a ns hl _ hH hS => ⟨ns, a, rfl, ⟨_, hS, Mir.of_ints⟩, (List.forall_mem_cons.mpr ⟨NdefX.TabN.nil (hH (cc17, PT17) (by simp)), (List.forall_mem_cons.mpr ⟨NdefX.TabN.nil (hH (cc42, PT42) (by simp)), (fun _ z => nomatch z)⟩)⟩), by rw [hmath ns hl]; exact fun _ _ => rfl⟩, fun base _ _ TBs => ?_⟩
  have TB17 := TBs (cc17, PT17) (by simp)
  have TB42 := TBs (cc42, PT42) (by simp)
  generalize hTT : [PT17, PT42] = TT
  have hP17 : PT17 ∈ TT := by rw [← hTT]; simp
  have hP42 : PT42 ∈ TT := by rw [← hTT]; simp
  have Xk_zd : Xk K mg "ZeroDivisor" c_zd := ⟨PySem.W.mg_of X G gn_zd, xx_zd, xk_zd, xb_zd, xt_zd⟩
  have Xk_mal : Xk K mg "Malformed" c_mal := ⟨PySem.W.mg_of X G gn_mal, xx_mal, xk_mal, xb_mal, xt_mal⟩
  have gk_MOST_MEMBERS := PySem.W.mg_of X G gg_MOST_MEMBERS
  have kl_Field := (⟨pg_Field, hd_Field, po_Field, sa_Field⟩ : Cls K c_Field)
  have kc_zd_zd := kc_of xb_zd ed_zd xt_zd ss_zd_zd
  have em_zd_zd := PySem.W.exm_ref xb_zd ed_zd xt_zd ss_zd_zd
  have gc_zd := PySem.W.mg_of X G gn_zd
  have C__law_state : Cal l.prog w K mg base CX0 1 "_law_state" ["script"] (sp__law_state K) := ⟨f1, _, ok__law_state F1 z_abs z_int, PySem.W.mg_of X G a1, k1, b1⟩
  have C__law_take : Cal l.prog w K mg base CX0 1 "_law_take" ["state", "m"] (sp__law_take K) := ⟨f2, _, ok__law_take F2 z_int, PySem.W.mg_of X G a2, k2, b2⟩
  have C__law_is_prime_row : Cal l.prog w K mg base CX0 1 "_law_is_prime_row" ["p", "row"] (sp__law_is_prime_row K) := ⟨f3, _, ok__law_is_prime_row F3 z_range z_len z_int, PySem.W.mg_of X G a3, k3, b3⟩
  have C__law_modulus : Cal l.prog w K mg base CX0 2 "_law_modulus" ["state", "p", "n"] (sp__law_modulus K) := ⟨f4, _, ok__law_modulus F4 z_range z_int z_tuple C__law_take C__law_is_prime_row, PySem.W.mg_of X G a4, k4, b4⟩
  have C__law_pair : Cal l.prog w K mg base CX0 3 "_law_pair" ["state"] (sp__law_pair K) := ⟨f5, _, ok__law_pair F5 C__law_take C__law_modulus, PySem.W.mg_of X G a5, k5, b5⟩
  have C_is_integer : Cal l.prog w K mg base CX0 1 "is_integer" ["value"] (sp_is_integer K) := ⟨f6, _, ok_is_integer F6 z_isinstance z_int z_bool, PySem.W.mg_of X G a6, k6, b6⟩
  have C_least_divisor : Cal l.prog w K mg base CX0 1 "least_divisor" ["n", "start"] (sp_least_divisor K) := ⟨f7, _, ok_least_divisor F7 , PySem.W.mg_of X G a7, k7, b7⟩
  have C_is_prime : Cal l.prog w K mg base CX0 2 "is_prime" ["n"] (sp_is_prime K) := ⟨f8, _, ok_is_prime F8 C_least_divisor, PySem.W.mg_of X G a8, k8, b8⟩
  have C_power_within : Cal l.prog w K mg base CX0 1 "power_within" ["a", "k", "limit"] (sp_power_within K) := ⟨f9, _, ok_power_within F9 z_range, PySem.W.mg_of X G a9, k9, b9⟩
  have C_cofactors : Cal l.prog w K mg base CX0 1 "cofactors" ["a", "b"] (sp_cofactors K) := ⟨f10, _, ok_cofactors F10 , PySem.W.mg_of X G a10, k10, b10⟩
  have C_inverse_modulo : Cal l.prog w K mg base (CX l.prog w) 2 "inverse_modulo" ["a", "m"] (sp_inverse_modulo K (⟨some c_fault, some c_zd, some c_mal, some c_refu, none⟩ : Xc)) := ⟨f11, _, ok_inverse_modulo F11 Xk_zd C_cofactors, PySem.W.mg_of X G a11, k11, b11⟩
  have C_without_end : Cal l.prog w K mg base CX0 1 "without_end" ["items", "zero"] (sp_without_end K) := ⟨f12, _, ok_without_end F12 z_len z_tuple, PySem.W.mg_of X G a12, k12, b12⟩
  have C_trimmed : Cal l.prog w K mg base CX0 2 "trimmed" ["row", "p"] (sp_trimmed K) := ⟨f13, _, ok_trimmed F13 C_without_end, PySem.W.mg_of X G a13, k13, b13⟩
  have C_divide_rows : Cal l.prog w K mg base (CX l.prog w) 3 "divide_rows" ["a", "b", "p"] (sp_divide_rows K (⟨some c_fault, some c_zd, some c_mal, some c_refu, none⟩ : Xc)) := ⟨f14, _, ok_divide_rows F14 z_list z_len z_reversed z_range z_enumerate Xk_zd C_inverse_modulo C_trimmed, PySem.W.mg_of X G a14, k14, b14⟩
  have C_multiply_rows : Cal l.prog w K mg base CX0 3 "multiply_rows" ["a", "b", "p"] (sp_multiply_rows K) := ⟨f15, _, ok_multiply_rows F15 z_len z_enumerate C_trimmed, PySem.W.mg_of X G a15, k15, b15⟩
  have O_lam1 : LOk l.prog w K mg base (CX l.prog w) 4 lw_lam1 ["x", "y"] ["m", "p"] (spl_lam1 K (⟨some c_fault, some c_zd, some c_mal, some c_refu, none⟩ : Xc)) := okl_lam1 C_multiply_rows C_divide_rows
  have C_by_squaring : CalC l.prog w K mg base (CX l.prog w) 5 "by_squaring" ["one", "base", "k", "product"] lw_lam1 ["m", "p"] (sp_by_squaring K (⟨some c_fault, some c_zd, some c_mal, some c_refu, none⟩ : Xc)) := ⟨f16, _, ok_by_squaring F16 O_lam1, PySem.W.mg_of X G a16, k16, b16⟩
  have C_power_row : Cal l.prog w K mg base (CX l.prog w) 6 "power_row" ["a", "k", "m", "p"] (sp_power_row K (⟨some c_fault, some c_zd, some c_mal, some c_refu, none⟩ : Xc) TT) := ⟨f17, _, ok_power_row T17 TB17 hP17 C_divide_rows C_by_squaring, PySem.W.mg_of X G a17, k17, b17⟩
  have C_filled_up : Cal l.prog w K mg base CX0 1 "filled_up" ["items", "length", "zero"] (sp_filled_up K) := ⟨f18, _, ok_filled_up F18 z_tuple z_len, PySem.W.mg_of X G a18, k18, b18⟩
  have C_filled_up_2 : Cal l.prog w K mg base CX0 1 "filled_up" ["items", "length", "zero"] (sp_filled_up_2 K) := ⟨f18, _, ok_filled_up_2 F18 z_tuple z_len, PySem.W.mg_of X G a18, k18, b18⟩
  have C_add_rows : Cal l.prog w K mg base CX0 3 "add_rows" ["a", "b", "p"] (sp_add_rows K) := ⟨f19, _, ok_add_rows F19 z_len z_max z_zip C_filled_up C_filled_up_2 C_trimmed, PySem.W.mg_of X G a19, k19, b19⟩
  have C_subtract_rows : Cal l.prog w K mg base CX0 4 "subtract_rows" ["a", "b", "p"] (sp_subtract_rows K) := ⟨f20, _, ok_subtract_rows F20 C_add_rows, PySem.W.mg_of X G a20, k20, b20⟩
  have C_common_row : Cal l.prog w K mg base (CX l.prog w) 4 "common_row" ["a", "b", "p"] (sp_common_row K (⟨some c_fault, some c_zd, some c_mal, some c_refu, none⟩ : Xc)) := ⟨f21, _, ok_common_row F21 C_divide_rows C_inverse_modulo C_multiply_rows, PySem.W.mg_of X G a21, k21, b21⟩
  have C_is_irreducible_row : Cal l.prog w K mg base (CX l.prog w) 7 "is_irreducible_row" ["m", "p"] (sp_is_irreducible_row K (⟨some c_fault, some c_zd, some c_mal, some c_refu, none⟩ : Xc) TT) := ⟨f22, _, ok_is_irreducible_row F22 z_len z_range C_power_row C_subtract_rows C_common_row, PySem.W.mg_of X G a22, k22, b22⟩
  have C_check_making : Cal l.prog w K mg base (CX l.prog w) 8 "check_making" ["p", "modulus"] (sp_check_making K (⟨some c_fault, some c_zd, some c_mal, some c_refu, none⟩ : Xc) TT) := ⟨f23, _, ok_check_making F23 z_isinstance z_tuple z_list z_all z_len Xk_mal gk_MOST_MEMBERS C_is_integer C_is_prime C_power_within C_is_irreducible_row, PySem.W.mg_of X G a23, k23, b23⟩
  have C_digits : Cal l.prog w K mg base CX0 1 "digits" ["number", "base", "count"] (sp_digits K) := ⟨f24, _, ok_digits F24 z_range z_tuple, PySem.W.mg_of X G a24, k24, b24⟩
  have C_trimmed_2 : Cal l.prog w K mg base CX0 2 "trimmed" ["row", "p"] (sp_trimmed_2 K) := ⟨f13, _, ok_trimmed_2 F13 C_without_end, PySem.W.mg_of X G a13, k13, b13⟩
  have C_powers_of : Cal l.prog w K mg base (CX l.prog w) 4 "powers_of" ["a", "p", "modulus"] (sp_powers_of K (⟨some c_fault, some c_zd, some c_mal, some c_refu, none⟩ : Xc)) := ⟨f25, _, ok_powers_of F25 z_len z_range z_zip z_sum z_tuple C_trimmed_2 C_divide_rows C_filled_up, PySem.W.mg_of X G a25, k25, b25⟩
  have C_primitive_powers : Cal l.prog w K mg base (CX l.prog w) 5 "primitive_powers" ["members", "p", "modulus"] (sp_primitive_powers K (⟨some c_fault, some c_zd, some c_mal, some c_refu, none⟩ : Xc)) := ⟨f26, _, ok_primitive_powers F26 z_len C_powers_of, PySem.W.mg_of X G a26, k26, b26⟩
  have C_written_power : Cal l.prog w K mg base CX0 1 "written_power" ["name", "k"] (sp_written_power K) := ⟨f27, _, ok_written_power F27 , PySem.W.mg_of X G a27, k27, b27⟩
  have C_written_term : Cal l.prog w K mg base CX0 2 "written_term" ["coefficient", "k"] (sp_written_term K) := ⟨f28, _, ok_written_term F28 C_written_power, PySem.W.mg_of X G a28, k28, b28⟩
  have C_Field_written : CalM l.prog w K mg base CX0 3 c_Field "written" ["self", "a"] (sp_Field_written K c_Field) := ⟨f29, _, ok_Field_written F29 z_reversed z_range kl_Field na_Field_n C_written_term, ⟨a29, i29, k29⟩, b29⟩
  have C_Field___init__ : CalI l.prog w K mg base (CX l.prog w) 9 c_Field "Field" ["self", "p", "modulus"] (sp_Field___init__ K c_Field (⟨some c_fault, some c_zd, some c_mal, some c_refu, none⟩ : Xc) TT) := ⟨f30, _, ok_Field___init__ F30 (c_fault := c_fault) (c_zd := c_zd) (c_mal := c_mal) (c_refu := c_refu) z_tuple z_len z_range z_enumerate kl_Field na_Field_p na_Field_modulus na_Field_n gk_MOST_MEMBERS na_Field_q na_Field__members na_Field__powers na_Field__logarithms na_Field__texts C_check_making C_power_within C_digits C_primitive_powers C_Field_written, ⟨mk_Field, a30, i30, kp_Field⟩, PySem.W.mg_of X G gn_Field, b30⟩
  have C__law_member : Cal l.prog w K mg base CX0 2 "_law_member" ["state", "p", "n"] (sp__law_member K) := ⟨f31, _, ok__law_member F31 z_range z_tuple C__law_take, PySem.W.mg_of X G a31, k31, b31⟩
  have C__law_zero : Cal l.prog w K mg base CX0 1 "_law_zero" ["n"] (sp__law_zero K) := ⟨f32, _, ok__law_zero F32 z_range z_tuple, PySem.W.mg_of X G a32, k32, b32⟩
  have C__law_one : Cal l.prog w K mg base CX0 1 "_law_one" ["n"] (sp__law_one K) := ⟨f33, _, ok__law_one F33 z_range z_tuple, PySem.W.mg_of X G a33, k33, b33⟩
  have C__law_reduce : Cal l.prog w K mg base CX0 1 "_law_reduce" ["row", "p", "modulus"] (sp__law_reduce K) := ⟨f34, _, ok__law_reduce F34 z_int z_len z_range z_tuple, PySem.W.mg_of X G a34, k34, b34⟩
  have C__law_multiply : Cal l.prog w K mg base CX0 2 "_law_multiply" ["p", "modulus", "a", "b"] (sp__law_multiply K) := ⟨f35, _, ok__law_multiply F35 z_len z_range C__law_reduce, PySem.W.mg_of X G a35, k35, b35⟩
  have C_Field_zero : CalM l.prog w K mg base CX0 1 c_Field "zero" ["self"] (sp_Field_zero K c_Field) := ⟨f36, _, ok_Field_zero F36 kl_Field na_Field__members, ⟨a36, i36, k36⟩, b36⟩
  have C_check_not_zero : Cal l.prog w K mg base (CX l.prog w) 2 "check_not_zero" ["field", "a"] (sp_check_not_zero K c_Field (⟨some c_fault, some c_zd, some c_mal, some c_refu, none⟩ : Xc)) := ⟨f37, _, ok_check_not_zero F37 kl_Field C_Field_zero, PySem.W.mg_of X G a37, k37, b37⟩
  have C_Field_one : CalM l.prog w K mg base CX0 1 c_Field "one" ["self"] (sp_Field_one K c_Field) := ⟨f38, _, ok_Field_one F38 kl_Field na_Field__members, ⟨a38, i38, k38⟩, b38⟩
  have C_Field_power : CalM l.prog w K mg base (CX l.prog w) 2 c_Field "power" ["self", "a", "k"] (sp_Field_power K c_Field (⟨some c_fault, some c_zd, some c_mal, some c_refu, none⟩ : Xc)) := ⟨f39, _, ok_Field_power F39 (c_fault := c_fault) (c_zd := c_zd) (c_mal := c_mal) (c_refu := c_refu) kl_Field na_Field__powers na_Field__logarithms na_Field_q Xk_zd C_Field_zero C_Field_one, ⟨a39, i39, k39⟩, b39⟩
  have O_lam2 : LOk l.prog w K mg base (CX l.prog w) 3 lw_lam2 ["k"] ["field", "a"] (spl_lam2 K c_Field (⟨some c_fault, some c_zd, some c_mal, some c_refu, none⟩ : Xc)) := okl_lam2 kl_Field C_Field_power C_Field_one
  have C_prime_powers : Cal l.prog w K mg base CX0 2 "prime_powers" ["n"] (sp_prime_powers K) := ⟨f40, _, ok_prime_powers F40 z_tuple C_least_divisor, PySem.W.mg_of X G a40, k40, b40⟩
  have C_least_exponent : CalC l.prog w K mg base (CX l.prog w) 4 "least_exponent" ["start", "is_one"] lw_lam2 ["field", "a"] (sp_least_exponent K c_Field (⟨some c_fault, some c_zd, some c_mal, some c_refu, none⟩ : Xc)) := ⟨f41, _, ok_least_exponent F41 z_range C_prime_powers O_lam2, PySem.W.mg_of X G a41, k41, b41⟩
  have C_order_of : Cal l.prog w K mg base (CX l.prog w) 5 "order_of" ["field", "a"] (sp_order_of K c_Field (⟨some c_fault, some c_zd, some c_mal, some c_refu, none⟩ : Xc) TT) := ⟨f42, _, ok_order_of T42 TB42 hP42 kl_Field na_Field_q C_check_not_zero C_least_exponent, PySem.W.mg_of X G a42, k42, b42⟩
  have C_prime_divisors : Cal l.prog w K mg base CX0 3 "prime_divisors" ["n"] (sp_prime_divisors K) := ⟨f43, _, ok_prime_divisors F43 z_tuple C_prime_powers, PySem.W.mg_of X G a43, k43, b43⟩
  have C_order_paper : Cal l.prog w K mg base (CX l.prog w) 6 "order_paper" ["field", "a"] (sp_order_paper K c_Field (⟨some c_fault, some c_zd, some c_mal, some c_refu, none⟩ : Xc) TT) := ⟨f44, _, ok_order_paper F44 kl_Field Xk_zd C_Field_zero C_order_of C_prime_divisors, PySem.W.mg_of X G a44, k44, b44⟩
  have C__law_primes : Cal l.prog w K mg base CX0 1 "_law_primes" ["m"] (sp__law_primes K) := ⟨f45, _, ok__law_primes F45 z_range z_tuple, PySem.W.mg_of X G a45, k45, b45⟩
  have C_is_tuple_of : Cal l.prog w K mg base CX0 1 "is_tuple_of" ["value", "length"] (sp_is_tuple_of K) := ⟨f46, _, ok_is_tuple_of F46 z_isinstance z_tuple z_len, PySem.W.mg_of X G a46, k46, b46⟩
  have C_is_paper : Cal l.prog w K mg base CX0 2 "is_paper" ["value", "word", "length"] (sp_is_paper K) := ⟨f47, _, ok_is_paper F47 C_is_tuple_of, PySem.W.mg_of X G a47, k47, b47⟩
  have C_is_integer_2 : Cal l.prog w K mg base CX0 1 "is_integer" ["value"] (sp_is_integer_2 K) := ⟨f6, _, ok_is_integer_2 F6 z_isinstance z_int z_bool, PySem.W.mg_of X G a6, k6, b6⟩
  have C_Field_is_member : CalM l.prog w K mg base CX0 2 c_Field "is_member" ["self", "value"] (sp_Field_is_member K c_Field) := ⟨f48, _, ok_Field_is_member F48 z_isinstance z_tuple z_len z_all kl_Field na_Field_n na_Field_p C_is_integer_2, ⟨a48, i48, k48⟩, b48⟩
  have C_is_positive : Cal l.prog w K mg base CX0 2 "is_positive" ["value"] (sp_is_positive K) := ⟨f49, _, ok_is_positive F49 C_is_integer_2, PySem.W.mg_of X G a49, k49, b49⟩
  have C_takes_order : Cal l.prog w K mg base (CX l.prog w) 4 "takes_order" ["field", "a", "paper"] (sp_takes_order K c_Field (⟨some c_fault, some c_zd, some c_mal, some c_refu, none⟩ : Xc)) := ⟨f50, _, ok_takes_order F50 z_all kl_Field na_Field_q C_is_paper C_Field_is_member C_Field_zero C_is_positive C_prime_divisors C_Field_one C_Field_power, PySem.W.mg_of X G a50, k50, b50⟩
  have C__law_refused : Cal l.prog w K mg base CX0 7 "_law_refused" ["field"] (sp__law_refused K c_Field TT) := ⟨f51, _, ok__law_refused F51 em_zd_zd kl_Field gc_zd C_Field_zero C_order_paper, PySem.W.mg_of X G a51, k51, b51⟩
  exact ok_law F52 z_len z_range z_list kl_Field na_Field_q C__law_state C__law_pair C_Field___init__ C__law_member C__law_zero C__law_one C__law_multiply C_order_paper C__law_primes C_takes_order C_Field_zero C__law_refused

end Pf
set_option Elab.async false
set_option linter.all false
namespace Pol
open Lean.Grind
/-! ### endless rows of coefficients: a ring -/
structure PS (K : Type) where
  c : Nat → K
/-- the integers in a ring -/
def ic (K : Type) [CommRing K] (x : Int) : K := Ring.intCast.intCast x
def nc (K : Type) [CommRing K] (x : Nat) : K := Semiring.natCast.natCast x
section
variable {K : Type} [CommRing K]
theorem PS.ext {f g : PS K} (h : ∀ i, f.c i = g.c i) : f = g := by
  cases f
  cases g
  congr 1
  exact funext h
def tl (f : Nat → K) : Nat → K := fun i => f (i + 1)
/-- the coefficient k of a product -/
def mc (f g : Nat → K) : Nat → K
  | 0 => f 0 * g 0
  | k + 1 => f 0 * g (k + 1) + mc (tl f) g k
theorem mc_add_r (f g h : Nat → K) (k : Nat) : mc f (fun i => g i + h i) k = mc f g k + mc f h k := by
  induction k generalizing f with
  | zero => simp only [mc]; grind
  | succ k ih => simp only [mc, ih]; grind
theorem mc_add_l (f g h : Nat → K) (k : Nat) : mc (fun i => f i + g i) h k = mc f h k + mc g h k := by
  induction k generalizing f g with
  | zero => simp only [mc]; grind
  | succ k ih =>
    have e := ih (tl f) (tl g)
    simp only [mc]
    rw [show tl (fun i => f i + g i) = fun i => tl f i + tl g i from rfl, e]
    grind
theorem mc_smul_l (a : K) (f g : Nat → K) (k : Nat) : mc (fun i => a * f i) g k = a * mc f g k := by
  induction k generalizing f with
  | zero => simp only [mc]; grind
  | succ k ih =>
    have e := ih (tl f)
    simp only [mc]
    rw [show tl (fun i => a * f i) = fun i => a * tl f i from rfl, e]
    grind
theorem mc_right (f g : Nat → K) (k : Nat) : mc f g (k + 1) = g 0 * f (k + 1) + mc f (tl g) k := by
  induction k generalizing f with
  | zero => simp only [mc, tl]; grind
  | succ k ih =>
    rw [show mc f g (k + 2) = f 0 * g (k + 2) + mc (tl f) g (k + 1) from rfl, ih, show mc f (tl g) (k + 1) = f 0 * g (k + 2) + mc (tl f) (tl g) k from rfl]
    simp only [tl]
    grind
theorem mc_comm (f g : Nat → K) (k : Nat) : mc f g k = mc g f k := by
  induction k generalizing f with
  | zero => simp only [mc]; grind
  | succ k ih => rw [mc_right g f k, ← ih]; rfl
theorem mc_assoc (f g h : Nat → K) (k : Nat) : mc (mc f g) h k = mc f (mc g h) k := by
  induction k generalizing f with
  | zero => simp only [mc]; grind
  | succ k ih =>
    have e : tl (mc f g) = fun i => f 0 * tl g i + mc (tl f) g i := rfl
    rw [show mc (mc f g) h (k + 1) = f 0 * g 0 * h (k + 1) + mc (tl (mc f g)) h k from rfl, e, mc_add_l, mc_smul_l, ih, show mc f (mc g h) (k + 1) = f 0 * (g 0 * h (k + 1) + mc (tl g) h k) + mc (tl f) (mc g h) k from rfl]
    grind
theorem mc_zero_l (g : Nat → K) (k : Nat) : mc (fun _ => 0) g k = 0 := by
  induction k with
  | zero => simp only [mc]; grind
  | succ k ih =>
    show 0 * g (k + 1) + mc (fun _ => 0) g k = 0
    rw [ih]
    grind
def cst (a : K) : Nat → K := fun i => if i = 0 then a else 0
theorem mc_cst (a : K) (g : Nat → K) (k : Nat) : mc (cst a) g k = a * g k := by
  cases k with
  | zero => rfl
  | succ k =>
    show a * g (k + 1) + mc (fun _ => 0) g k = _
    rw [mc_zero_l]
    grind
instance : Add (PS K) := ⟨fun f g => ⟨fun i => f.c i + g.c i⟩⟩
instance : Mul (PS K) := ⟨fun f g => ⟨mc f.c g.c⟩⟩
instance : Neg (PS K) := ⟨fun f => ⟨fun i => -f.c i⟩⟩
instance : Sub (PS K) := ⟨fun f g => ⟨fun i => f.c i - g.c i⟩⟩
instance : NatCast (PS K) := ⟨fun n => ⟨cst (nc K n)⟩⟩
instance (n : Nat) : OfNat (PS K) n := ⟨⟨cst (OfNat.ofNat n : K)⟩⟩
instance : IntCast (PS K) := ⟨fun n => ⟨cst (ic K n)⟩⟩
instance : SMul Nat (PS K) := ⟨fun n f => (n : PS K) * f⟩
instance : SMul Int (PS K) := ⟨fun n f => (n : PS K) * f⟩
def PS.npow (f : PS K) : Nat → PS K
  | 0 => 1
  | n + 1 => PS.npow f n * f
instance : HPow (PS K) Nat (PS K) := ⟨PS.npow⟩
theorem add_c (f g : PS K) (i : Nat) : (f + g).c i = f.c i + g.c i := rfl
theorem sub_c (f g : PS K) (i : Nat) : (f - g).c i = f.c i - g.c i := rfl
theorem neg_c (f : PS K) (i : Nat) : (-f).c i = -f.c i := rfl
theorem mul_c (f g : PS K) (i : Nat) : (f * g).c i = mc f.c g.c i := rfl
theorem zero_c (i : Nat) : (0 : PS K).c i = 0 := by
  show cst (0 : K) i = 0
  unfold cst
  split <;> rfl
theorem one_c (i : Nat) : (1 : PS K).c i = if i = 0 then 1 else 0 := rfl
instance : CommRing (PS K) := {
  add_zero := fun f => PS.ext fun i => by rw [add_c, zero_c]; grind
  add_comm := fun f g => PS.ext fun i => by rw [add_c, add_c]; grind
  add_assoc := fun f g h => PS.ext fun i => by simp only [add_c]; grind
  mul_assoc := fun f g h => PS.ext fun i => mc_assoc f.c g.c h.c i
  mul_comm := fun f g => PS.ext fun i => mc_comm f.c g.c i
  mul_one := fun f => PS.ext fun i => by
    rw [mul_c, mc_comm]
    show mc (cst (1 : K)) f.c i = f.c i
    rw [mc_cst]
    grind
  one_mul := fun f => PS.ext fun i => by
    rw [mul_c]
    show mc (cst (1 : K)) f.c i = f.c i
    rw [mc_cst]
    grind
  mul_zero := fun f => PS.ext fun i => by
    rw [mul_c, mc_comm, zero_c]
    show mc (cst (0 : K)) f.c i = 0
    rw [mc_cst]
    grind
  right_distrib := fun f g h => PS.ext fun i => mc_add_l f.c g.c h.c i
  left_distrib := fun f g h => PS.ext fun i => mc_add_r f.c g.c h.c i
  zero_mul := fun f => PS.ext fun i => by
    rw [mul_c, zero_c]
    show mc (cst (0 : K)) f.c i = 0
    rw [mc_cst]
    grind
  pow_zero := fun f => rfl
  pow_succ := fun f n => rfl
  ofNat_succ := fun n => PS.ext fun i => by
    show cst (OfNat.ofNat (n + 1) : K) i = cst (OfNat.ofNat n : K) i + cst (1 : K) i
    unfold cst
    split
    · exact Semiring.ofNat_succ n
    · grind
  ofNat_eq_natCast := fun n => PS.ext fun i => by
    show cst (OfNat.ofNat n : K) i = cst (nc K n) i
    rw [Semiring.ofNat_eq_natCast]
    rfl
  nsmul_eq_natCast_mul := fun n f => rfl
  neg_add_cancel := fun f => PS.ext fun i => by rw [add_c, neg_c, zero_c]; grind
  sub_eq_add_neg := fun f g => PS.ext fun i => by rw [add_c, neg_c, sub_c]; grind
  neg_zsmul := fun n f => PS.ext fun i => by
    show mc (cst (ic K (-n))) f.c i = -mc (cst (ic K n)) f.c i
    rw [mc_cst, mc_cst, show ic K (-n) = -ic K n from Ring.intCast_neg n]
    grind
  zsmul_natCast_eq_nsmul := fun n f => PS.ext fun i => by
    show mc (cst (ic K (n : Int))) f.c i = mc (cst (nc K n)) f.c i
    rw [show ic K (n : Int) = nc K n from Ring.intCast_natCast n]
  intCast_ofNat := fun n => PS.ext fun i => by
    show cst (ic K (OfNat.ofNat n : Int)) i = cst (OfNat.ofNat n : K) i
    rw [show ic K (OfNat.ofNat n : Int) = (OfNat.ofNat n : K) from Ring.intCast_ofNat n]
  intCast_neg := fun n => PS.ext fun i => by
    show cst (ic K (-n)) i = -cst (ic K n) i
    unfold cst
    split
    · exact Ring.intCast_neg n
    · grind
}
example (a b c : PS K) : (a + b) * c = c * b + a * c := by grind
/-! ### degrees -/
/-- nothing from n on -/
def dlt (n : Nat) (f : PS K) : Prop := ∀ i, n ≤ i → f.c i = 0
def fin (f : PS K) : Prop := ∃ n, dlt n f
theorem dlt.mono {m n : Nat} {f : PS K} (h : dlt m f) (l : m ≤ n) : dlt n f := fun i hi => h i (Nat.le_trans l hi)
theorem mc_left (f g : Nat → K) (n : Nat) (hf : ∀ i, n ≤ i → f i = 0) (k m : Nat) (hg : ∀ i, m ≤ i → g i = 0) (hk : n + m ≤ k + 1) : n = 0 ∨ mc f g k = 0 := by
  induction k generalizing f n with
  | zero =>
    by_cases z : n = 0
    · exact .inl z
    · right
      have : m = 0 := by omega
      subst this
      show f 0 * g 0 = 0
      rw [hg 0 (Nat.le_refl _)]
      grind
  | succ k ih =>
    by_cases z : n = 0
    · exact .inl z
    · right
      show f 0 * g (k + 1) + mc (tl f) g k = 0
      have e1 : mc (tl f) g k = 0 := by
        rcases ih (tl f) (n - 1) (fun i hi => hf (i + 1) (by omega)) (by omega) with q | q
        · have zf : tl f = fun _ => (0 : K) := funext fun i => hf (i + 1) (by omega)
          rw [zf]
          exact mc_zero_l g k
        · exact q
      rw [e1, hg (k + 1) (by omega)]
      grind
theorem dlt.mul {m n : Nat} {f g : PS K} (hf : dlt n f) (hg : dlt m g) : dlt (n + m - 1) (f * g) := fun k hk => by
  by_cases z : n = 0
  · have zf : f.c = fun _ => (0 : K) := funext fun i => hf i (by omega)
    rw [mul_c, zf]
    exact mc_zero_l g.c k
  · exact (mc_left f.c g.c n hf k m hg (by omega)).resolve_left z
theorem dlt.add {n : Nat} {f g : PS K} (hf : dlt n f) (hg : dlt n g) : dlt n (f + g) := fun i hi => by rw [add_c, hf i hi, hg i hi]; grind
theorem dlt.sub {n : Nat} {f g : PS K} (hf : dlt n f) (hg : dlt n g) : dlt n (f - g) := fun i hi => by rw [sub_c, hf i hi, hg i hi]; grind
theorem fin.mul {f g : PS K} (hf : fin f) (hg : fin g) : fin (f * g) := let ⟨n, h⟩ := hf; let ⟨m, k⟩ := hg; ⟨_, h.mul k⟩
theorem fin.add {f g : PS K} (hf : fin f) (hg : fin g) : fin (f + g) := let ⟨n, h⟩ := hf; let ⟨m, k⟩ := hg; ⟨n + m, (h.mono (by omega)).add (k.mono (by omega))⟩
theorem fin.sub {f g : PS K} (hf : fin f) (hg : fin g) : fin (f - g) := let ⟨n, h⟩ := hf; let ⟨m, k⟩ := hg; ⟨n + m, (h.mono (by omega)).sub (k.mono (by omega))⟩
theorem eq_zero {f : PS K} (h : dlt 0 f) : f = 0 := PS.ext fun i => by rw [h i (Nat.zero_le _), zero_c]
/-- no products of two others are zero -/
def NZD (K : Type) [CommRing K] : Prop := ∀ a b : K, a * b = 0 → a = 0 ∨ b = 0
/-- d divides f -/
def Dv (d f : PS K) : Prop := ∃ u, fin u ∧ f = u * d
theorem Dv.add {d f g : PS K} (h : Dv d f) (k : Dv d g) : Dv d (f + g) := let ⟨u, hu, e⟩ := h; let ⟨v, hv, e2⟩ := k; ⟨u + v, hu.add hv, by grind⟩
theorem Dv.sub {d f g : PS K} (h : Dv d f) (k : Dv d g) : Dv d (f - g) := let ⟨u, hu, e⟩ := h; let ⟨v, hv, e2⟩ := k; ⟨u - v, hu.sub hv, by grind⟩
theorem Dv.mul {d f : PS K} (g : PS K) (hg : fin g) (h : Dv d f) : Dv d (g * f) := let ⟨u, hu, e⟩ := h; ⟨g * u, hg.mul hu, by grind⟩
theorem Dv.trans {d f g : PS K} (h : Dv d f) (k : Dv f g) : Dv d g := let ⟨u, hu, e⟩ := h; let ⟨v, hv, e2⟩ := k; ⟨v * u, hv.mul hu, by grind⟩
theorem fin_zero : fin (0 : PS K) := ⟨0, fun i _ => zero_c i⟩
theorem fin_one : fin (1 : PS K) := ⟨1, fun i hi => by rw [one_c, if_neg (by omega)]⟩
theorem Dv.refl (d : PS K) : Dv d d := ⟨1, fin_one, by grind⟩
theorem Dv.zero (d : PS K) : Dv d 0 := ⟨0, fin_zero, by grind⟩
/-- constants, and the multiples of powers of x -/
def C (a : K) : PS K := ⟨cst a⟩
theorem C_mul_c (a : K) (f : PS K) (i : Nat) : (C a * f).c i = a * f.c i := mc_cst a f.c i
theorem fin_C (a : K) : fin (C a) := ⟨1, fun i hi => by show cst a i = 0; unfold cst; rw [if_neg (by omega)]⟩
def sh (n : Nat) (f : PS K) : PS K := ⟨fun k => if k < n then 0 else f.c (k - n)⟩
theorem sh_c (n : Nat) (f : PS K) (k : Nat) : (sh n f).c k = if k < n then 0 else f.c (k - n) := rfl
theorem sh_zero (f : PS K) : sh 0 f = f := PS.ext fun k => by rw [sh_c, if_neg (by omega), Nat.sub_zero]
theorem sh_add (n : Nat) (f g : PS K) : sh n (f + g) = sh n f + sh n g := PS.ext fun k => by
  rw [add_c, sh_c, sh_c, sh_c]
  split
  · grind
  · rfl
theorem sh_one_mul (f g : PS K) : sh 1 f * g = sh 1 (f * g) := PS.ext fun k => by
  rw [mul_c, sh_c]
  cases k with
  | zero =>
    show (sh 1 f).c 0 * g.c 0 = _
    rw [sh_c, if_pos (by omega), if_pos (by omega)]
    grind
  | succ k =>
    show (sh 1 f).c 0 * g.c (k + 1) + mc (tl (sh 1 f).c) g.c k = _
    rw [sh_c, if_pos (by omega), if_neg (by omega), show tl (sh 1 f).c = f.c from funext fun i => by show (sh 1 f).c (i + 1) = _; rw [sh_c, if_neg (by omega)]; rfl]
    show 0 * g.c (k + 1) + mc f.c g.c k = mc f.c g.c k
    grind
theorem sh_sh (n : Nat) (f : PS K) : sh n (sh 1 f) = sh (n + 1) f := PS.ext fun k => by
  rw [sh_c, sh_c, sh_c]
  by_cases h : k < n
  · rw [if_pos h, if_pos (by omega)]
  · rw [if_neg h]
    by_cases h2 : k - n < 1
    · rw [if_pos h2, if_pos (by omega)]
    · rw [if_neg h2, if_neg (by omega), Nat.sub_sub]
theorem sh_mul (n : Nat) (f g : PS K) : sh n f * g = sh n (f * g) := by
  induction n with
  | zero => rw [sh_zero, sh_zero]
  | succ n ih =>
    have e : sh (n + 1) f = sh 1 (sh n f) := PS.ext fun k => by
      rw [sh_c, sh_c]
      by_cases h : k < 1
      · rw [if_pos h, if_pos (by omega)]
      · rw [if_neg h, sh_c]
        by_cases h2 : k < n + 1
        · rw [if_pos h2, if_pos (by omega)]
        · rw [if_neg h2, if_neg (by omega)]
          congr 1
          omega
    have e2 : sh (n + 1) (f * g) = sh 1 (sh n (f * g)) := PS.ext fun k => by
      rw [sh_c, sh_c]
      by_cases h : k < 1
      · rw [if_pos h, if_pos (by omega)]
      · rw [if_neg h, sh_c]
        by_cases h2 : k < n + 1
        · rw [if_pos h2, if_pos (by omega)]
        · rw [if_neg h2, if_neg (by omega)]
          congr 1
          omega
    rw [e, sh_one_mul, ih, e2]
theorem fin_sh {f : PS K} (n : Nat) (h : fin f) : fin (sh n f) := let ⟨m, hm⟩ := h; ⟨n + m, fun i hi => by rw [sh_c, if_neg (by omega)]; exact hm _ (by omega)⟩
end
end Pol
set_option Elab.async false
set_option linter.all false
set_option maxRecDepth 100000
namespace Pol
open Lean.Grind
/-! ### rows of integers -/
section
variable {K : Type} [CommRing K]
theorem ic_add (x y : Int) : ic K (x + y) = ic K x + ic K y := Ring.intCast_add x y
theorem ic_mul (x y : Int) : ic K (x * y) = ic K x * ic K y := Ring.intCast_mul x y
theorem ic_neg (x : Int) : ic K (-x) = -ic K x := Ring.intCast_neg x
theorem ic_sub (x y : Int) : ic K (x - y) = ic K x - ic K y := by
  rw [Int.sub_eq_add_neg, ic_add, ic_neg]
  grind
theorem ic_zero : ic K 0 = 0 := Ring.intCast_ofNat 0
theorem ic_one : ic K 1 = 1 := Ring.intCast_ofNat 1
def pl (K : Type) [CommRing K] (l : List Int) : PS K := ⟨fun i => ic K (l.getD i 0)⟩
theorem pl_c (l : List Int) (i : Nat) : (pl K l).c i = ic K (l.getD i 0) := rfl
theorem getD_ge {l : List Int} {i : Nat} (h : l.length ≤ i) : l.getD i 0 = 0 := by
  rw [List.getD_eq_getElem?_getD, List.getElem?_eq_none h]
  rfl
theorem dlt_pl (l : List Int) : dlt l.length (pl K l) := fun i hi => by rw [pl_c, getD_ge hi, ic_zero]
theorem fin_pl (l : List Int) : fin (pl K l) := ⟨_, dlt_pl l⟩
theorem plN : pl K [] = 0 := eq_zero (dlt_pl [])
theorem plC (x : Int) (l : List Int) : pl K (x :: l) = C (ic K x) + sh 1 (pl K l) := PS.ext fun i => by
  rw [add_c, sh_c, pl_c]
  cases i with
  | zero =>
    rw [if_pos (by omega)]
    show ic K x = ic K x + 0
    grind
  | succ i =>
    rw [if_neg (by omega)]
    show ic K (l.getD i 0) = 0 + (pl K l).c (i + 1 - 1)
    rw [pl_c]
    show _ = 0 + ic K (l.getD i 0)
    grind
/-- the integers modulo p, and no products of two others are zero -/
structure Ch (K : Type) [CommRing K] (p : Int) : Prop where
  pos : 1 < p
  iff : ∀ x y : Int, ic K x = ic K y ↔ x % p = y % p
  nz : NZD K
theorem Ch.mod {p : Int} (h : Ch K p) (x : Int) : ic K (x % p) = ic K x := (h.iff _ _).mpr (Int.emod_emod_of_dvd _ (Int.dvd_refl p))
/-- an item of a normal row -/
def In (p x : Int) : Prop := 0 ≤ x ∧ x < p
theorem Ch.ne {p x : Int} (h : Ch K p) (hx : In p x) (n : x ≠ 0) : ic K x ≠ 0 := fun e => n (by
  have e2 : ic K x = ic K 0 := e.trans ic_zero.symm
  have e3 := (h.iff _ _).mp e2
  rwa [Int.emod_eq_of_lt hx.1 hx.2, Int.zero_emod] at e3)
theorem Ch.inj {p x y : Int} (h : Ch K p) (hx : In p x) (hy : In p y) (e : ic K x = ic K y) : x = y := by
  have e3 := (h.iff _ _).mp e
  rwa [Int.emod_eq_of_lt hx.1 hx.2, Int.emod_eq_of_lt hy.1 hy.2] at e3
def nrm (p : Int) (l : List Int) : Prop := (∀ x ∈ l, In p x) ∧ (l = [] ∨ l.getD (l.length - 1) 0 ≠ 0)
theorem nrm.at {p : Int} {l : List Int} (h : nrm p l) (p0 : 0 < p) (i : Nat) : In p (l.getD i 0) := by
  by_cases e : i < l.length
  · rw [List.getD_eq_getElem?_getD, List.getElem?_eq_getElem e]
    exact h.1 _ (List.getElem_mem e)
  · rw [getD_ge (by omega)]
    exact ⟨Int.le_refl _, p0⟩
/-! ### the zeros at the end taken away -/
def tr0 : List Int → List Int
  | [] => []
  | x :: l => match tr0 l with
    | [] => if x = 0 then [] else [x]
    | y :: t => x :: y :: t
theorem tr0_char : ∀ (l : List Int) (n : Nat), n ≤ l.length → (∀ i, n ≤ i → l.getD i 0 = 0) → (n = 0 ∨ l.getD (n - 1) 0 ≠ 0) → tr0 l = l.take n
  | [], n, h, _, _ => by
    rw [show n = 0 from Nat.le_zero.mp h]
    rfl
  | x :: l, 0, _, h2, _ => by
    have e := tr0_char l 0 (Nat.zero_le _) (fun i _ => h2 (i + 1) (Nat.zero_le _)) (.inl rfl)
    have x0 : x = 0 := h2 0 (Nat.le_refl _)
    unfold tr0
    rw [e, x0]
    rfl
  | x :: l, n + 1, h1, h2, h3 => by
    have h1' : n ≤ l.length := Nat.le_of_succ_le_succ h1
    by_cases z : n = 0
    · subst z
      have e := tr0_char l 0 (Nat.zero_le _) (fun i _ => h2 (i + 1) (by omega)) (.inl rfl)
      have x0 : x ≠ 0 := h3.resolve_left (by omega)
      unfold tr0
      rw [e]
      show (if x = 0 then [] else [x]) = [x]
      rw [if_neg x0]
    · have e := tr0_char l n h1' (fun i hi => h2 (i + 1) (by omega)) (.inr (by
        have q := h3.resolve_left (by omega)
        rwa [show n + 1 - 1 = (n - 1) + 1 by omega] at q))
      unfold tr0
      rw [e]
      cases l with
      | nil => exact absurd (show n = 0 from Nat.le_zero.mp h1') z
      | cons y t =>
        cases n with
        | zero => exact absurd rfl z
        | succ n => rfl
theorem tr0_spec (l : List Int) : ∃ n, n ≤ l.length ∧ (∀ i, n ≤ i → l.getD i 0 = 0) ∧ (n = 0 ∨ l.getD (n - 1) 0 ≠ 0) ∧ tr0 l = l.take n := by
  suffices h : ∀ n, n ≤ l.length → (∀ i, n ≤ i → l.getD i 0 = 0) → ∃ n, n ≤ l.length ∧ (∀ i, n ≤ i → l.getD i 0 = 0) ∧ (n = 0 ∨ l.getD (n - 1) 0 ≠ 0) by
    obtain ⟨n, h1, h2, h3⟩ := h l.length (Nat.le_refl _) fun i hi => getD_ge hi
    exact ⟨n, h1, h2, h3, tr0_char l n h1 h2 h3⟩
  intro n
  induction n with
  | zero => exact fun h1 h2 => ⟨0, h1, h2, .inl rfl⟩
  | succ n ih =>
    intro h1 h2
    by_cases z : l.getD n 0 = 0
    · refine ih (by omega) fun i hi => ?_
      by_cases e : i = n
      · rw [e]
        exact z
      · exact h2 i (by omega)
    · exact ⟨n + 1, h1, h2, .inr z⟩
theorem getD_take {l : List Int} {n i : Nat} (h : i < n) : (l.take n).getD i 0 = l.getD i 0 := by
  rw [List.getD_eq_getElem?_getD, List.getD_eq_getElem?_getD, List.getElem?_take_of_lt h]
theorem tr0_getD (l : List Int) (i : Nat) : (tr0 l).getD i 0 = l.getD i 0 := by
  obtain ⟨n, h1, h2, _, e⟩ := tr0_spec l
  rw [e]
  by_cases z : i < n
  · exact getD_take z
  · rw [h2 i (by omega), getD_ge (by rw [List.length_take]; omega)]
theorem tr0_len (l : List Int) : (tr0 l).length ≤ l.length := by
  obtain ⟨n, h1, _, _, e⟩ := tr0_spec l
  rw [e, List.length_take]
  omega
theorem tr0_nrm {p : Int} {l : List Int} (h : ∀ x ∈ l, In p x) : nrm p (tr0 l) := by
  obtain ⟨n, h1, h2, h3, e⟩ := tr0_spec l
  rw [e]
  refine ⟨fun x hx => h x (List.mem_of_mem_take hx), ?_⟩
  rcases h3 with z | z
  · left
    rw [z]
    rfl
  · by_cases n0 : n = 0
    · left
      rw [n0]
      rfl
    · right
      rw [List.length_take, Nat.min_eq_left h1, getD_take (by omega)]
      exact z
def tr (p : Int) (l : List Int) : List Int := tr0 (l.map (· % p))
theorem getD_map (p : Int) (l : List Int) (i : Nat) : (l.map (· % p)).getD i 0 = l.getD i 0 % p := by
  rw [List.getD_eq_getElem?_getD, List.getD_eq_getElem?_getD, List.getElem?_map]
  cases l[i]? with
  | none => simp
  | some x => rfl
theorem tr_pl {p : Int} (h : Ch K p) (l : List Int) : pl K (tr p l) = pl K l := PS.ext fun i => by
  rw [pl_c, pl_c, tr, tr0_getD, getD_map, h.mod]
theorem tr_nrm {p : Int} (p0 : 0 < p) (l : List Int) : nrm p (tr p l) := tr0_nrm fun x hx => by
  obtain ⟨y, _, e⟩ := List.mem_map.mp hx
  rw [← e]
  exact ⟨Int.emod_nonneg _ (by omega), Int.emod_lt_of_pos _ p0⟩
theorem tr_len (p : Int) (l : List Int) : (tr p l).length ≤ l.length := by
  have e := tr0_len (l.map (· % p))
  rwa [List.length_map] at e
end
/-! ### lists by places -/
section
open PySem PySem.Spec PyProof.Rows L2 Mir
theorem getL_int {l : List Int} {i : Int} (h0 : 0 ≤ i) (h1 : i < l.length) : getL l i = .ok (l.getD i.toNat 0) := by
  unfold getL L2.atI L2.ixN
  rw [if_pos h0, if_pos h1]
  rw [Option.bind_some, List.getD_eq_getElem?_getD, List.getElem?_eq_getElem (show i.toNat < l.length by omega)]
  rfl
theorem setL_int {l : List Int} {i x : Int} (h0 : 0 ≤ i) (h1 : i < l.length) : setL l i x = .ok (l.set i.toNat x) := by
  unfold setL L2.ixN
  rw [if_pos h0, if_pos h1]
theorem popL_ok {l : List Int} (h : l ≠ []) : popL l = .ok (l.getD (l.length - 1) 0, l.dropLast) := by
  have hl : 0 < l.length := List.length_pos_iff.mpr h
  unfold popL
  rw [List.getD_eq_getElem?_getD, List.getElem?_eq_getElem (by omega)]
  rfl
theorem getD_set (l : List Int) (j : Nat) (x : Int) (i : Nat) (h : j < l.length) : (l.set j x).getD i 0 = if i = j then x else l.getD i 0 := by
  rw [List.getD_eq_getElem?_getD, List.getD_eq_getElem?_getD, List.getElem?_set]
  by_cases e : j = i
  · rw [if_pos e, if_pos h, if_pos e.symm]
    rfl
  · rw [if_neg e, if_neg (Ne.symm e)]
theorem fold_map {α β : Type} {f : List β → α → R (List β)} {g : α → β} : ∀ (xs : List α) (s : List β), (∀ s x, s.length < 1000 → x ∈ xs → f s x = .ok (s ++ [g x])) → s.length + xs.length ≤ 1000 → foldR f s xs = .ok (s ++ xs.map g)
  | [], s, _, _ => by
    rw [List.map_nil, List.append_nil]
    rfl
  | x :: xs, s, h, hl => by
    have hl' : s.length + (xs.length + 1) ≤ 1000 := hl
    show (f s x).bind _ = _
    rw [h s x (by omega) List.mem_cons_self, R.bind_ok, fold_map xs _ (fun s y hs hy => h s y hs (List.mem_cons_of_mem _ hy)) (by rw [List.length_append]; show s.length + 1 + _ ≤ _; omega), List.map_cons, List.append_assoc]
    rfl
theorem lenLt_small {α : Type} {l : List α} (h : l.length < 1000) : lenLt l := L2.small1000 (by omega)
theorem lenOk_small {α : Type} {l : List α} (h : l.length ≤ 1000) : lenOk l := Nat.le_of_lt (L2.small1000 h)
theorem small_mul {x y : Int} (hx : x.natAbs ≤ 100000) : L2.CMul x y := .inl ⟨by omega, by omega⟩
end
end Pol
set_option Elab.async false
set_option linter.all false
set_option maxRecDepth 100000
namespace Pol
open Lean.Grind
/-! ### finite rows up to the multiples of one: a ring -/
def FS (K : Type) [CommRing K] : Type := {f : PS K // fin f}
section
variable {K : Type} [CommRing K]
def stq (M : PS K) : Setoid (FS K) := ⟨fun f g => Dv M (f.1 - g.1), ⟨fun f => by
  have e : f.1 - f.1 = 0 := by grind
  rw [e]
  exact .zero M, fun {f g} h => by
  have e : g.1 - f.1 = 0 - (f.1 - g.1) := by grind
  rw [e]
  exact (Dv.zero M).sub h, fun {f g k} h h' => by
  have e : f.1 - k.1 = (f.1 - g.1) + (g.1 - k.1) := by grind
  rw [e]
  exact h.add h'⟩⟩
def Qr (M : PS K) : Type := Quotient (stq M)
variable {M : PS K}
def qm (M : PS K) (f : PS K) (h : fin f) : Qr M := Quotient.mk (stq M) ⟨f, h⟩
theorem qm_eq {f g : PS K} {hf : fin f} {hg : fin g} (h : Dv M (f - g)) : qm M f hf = qm M g hg := Quotient.sound h
theorem qm_of {f g : PS K} {hf : fin f} {hg : fin g} (h : f = g) : qm M f hf = qm M g hg := by
  subst h
  rfl
theorem qm_ind {P : Qr M → Prop} (h : ∀ f hf, P (qm M f hf)) (x : Qr M) : P x := Quotient.ind (fun ⟨f, hf⟩ => h f hf) x
theorem fin_neg {f : PS K} (h : fin f) : fin (-f) := by
  have e : -f = 0 - f := by grind
  rw [e]
  exact fin_zero.sub h
def Qr.add (x y : Qr M) : Qr M := Quotient.lift₂ (fun f g : FS K => qm M (f.1 + g.1) (f.2.add g.2)) (fun f g f' g' h h' => qm_eq (by
  have e : f.1 + g.1 - (f'.1 + g'.1) = (f.1 - f'.1) + (g.1 - g'.1) := by grind
  rw [e]
  exact Dv.add h h')) x y
def Qr.mul (x y : Qr M) : Qr M := Quotient.lift₂ (fun f g : FS K => qm M (f.1 * g.1) (f.2.mul g.2)) (fun f g f' g' h h' => qm_eq (by
  have e : f.1 * g.1 - f'.1 * g'.1 = f.1 * (g.1 - g'.1) + g'.1 * (f.1 - f'.1) := by grind
  rw [e]
  exact (Dv.mul f.1 f.2 h').add (Dv.mul g'.1 g'.2 h))) x y
def Qr.neg (x : Qr M) : Qr M := Quotient.lift (fun f : FS K => qm M (-f.1) (fin_neg f.2)) (fun f f' h => qm_eq (by
  have e : -f.1 - -f'.1 = 0 - (f.1 - f'.1) := by grind
  rw [e]
  exact (Dv.zero M).sub h)) x
def Qr.sub (x y : Qr M) : Qr M := Quotient.lift₂ (fun f g : FS K => qm M (f.1 - g.1) (f.2.sub g.2)) (fun f g f' g' h h' => qm_eq (by
  have e : f.1 - g.1 - (f'.1 - g'.1) = (f.1 - f'.1) - (g.1 - g'.1) := by grind
  rw [e]
  exact Dv.sub h h')) x y
instance : Add (Qr M) := ⟨Qr.add⟩
instance : Mul (Qr M) := ⟨Qr.mul⟩
instance : Neg (Qr M) := ⟨Qr.neg⟩
instance : Sub (Qr M) := ⟨Qr.sub⟩
theorem qm_add {f g : PS K} (hf : fin f) (hg : fin g) : qm M f hf + qm M g hg = qm M (f + g) (hf.add hg) := rfl
theorem qm_mul {f g : PS K} (hf : fin f) (hg : fin g) : qm M f hf * qm M g hg = qm M (f * g) (hf.mul hg) := rfl
theorem qm_neg {f : PS K} (hf : fin f) : -qm M f hf = qm M (-f) (fin_neg hf) := rfl
theorem qm_sub {f g : PS K} (hf : fin f) (hg : fin g) : qm M f hf - qm M g hg = qm M (f - g) (hf.sub hg) := rfl
theorem fin_nat (n : Nat) : fin ((n : PS K)) := fin_C (nc K n)
theorem fin_ofN (n : Nat) : fin ((OfNat.ofNat n : PS K)) := fin_C (OfNat.ofNat n : K)
theorem fin_int (n : Int) : fin ((n : PS K)) := fin_C (ic K n)
instance : NatCast (Qr M) := ⟨fun n => qm M (n : PS K) (fin_nat n)⟩
instance (n : Nat) : OfNat (Qr M) n := ⟨qm M (OfNat.ofNat n : PS K) (fin_ofN n)⟩
instance : IntCast (Qr M) := ⟨fun n => qm M (n : PS K) (fin_int n)⟩
instance : SMul Nat (Qr M) := ⟨fun n f => (n : Qr M) * f⟩
instance : SMul Int (Qr M) := ⟨fun n f => (n : Qr M) * f⟩
def Qr.npow (f : Qr M) : Nat → Qr M
  | 0 => 1
  | n + 1 => Qr.npow f n * f
instance : HPow (Qr M) Nat (Qr M) := ⟨Qr.npow⟩
theorem qm_nat (n : Nat) : ((n : Qr M)) = qm M (n : PS K) (fin_nat n) := rfl
theorem qm_int (n : Int) : ((n : Qr M)) = qm M (n : PS K) (fin_int n) := rfl
theorem qm_ofNat (n : Nat) : (OfNat.ofNat n : Qr M) = qm M (OfNat.ofNat n : PS K) (fin_ofN n) := rfl
theorem qm_0 : (0 : Qr M) = qm M (0 : PS K) (fin_ofN 0) := rfl
theorem qm_1 : (1 : Qr M) = qm M (1 : PS K) (fin_ofN 1) := rfl
instance : CommRing (Qr M) := {
  add_zero := qm_ind fun f hf => by rw [qm_0, qm_add]; exact qm_of (by grind)
  add_comm := qm_ind fun f hf => qm_ind fun g hg => by rw [qm_add, qm_add]; exact qm_of (by grind)
  add_assoc := qm_ind fun f hf => qm_ind fun g hg => qm_ind fun k hk => by rw [qm_add, qm_add, qm_add, qm_add]; exact qm_of (by grind)
  mul_assoc := qm_ind fun f hf => qm_ind fun g hg => qm_ind fun k hk => by rw [qm_mul, qm_mul, qm_mul, qm_mul]; exact qm_of (by grind)
  mul_comm := qm_ind fun f hf => qm_ind fun g hg => by rw [qm_mul, qm_mul]; exact qm_of (by grind)
  mul_one := qm_ind fun f hf => by rw [qm_1, qm_mul]; exact qm_of (by grind)
  one_mul := qm_ind fun f hf => by rw [qm_1, qm_mul]; exact qm_of (by grind)
  mul_zero := qm_ind fun f hf => by rw [qm_0, qm_mul]; exact qm_of (by grind)
  right_distrib := qm_ind fun f hf => qm_ind fun g hg => qm_ind fun k hk => by rw [qm_add, qm_mul, qm_mul, qm_mul, qm_add]; exact qm_of (by grind)
  left_distrib := qm_ind fun f hf => qm_ind fun g hg => qm_ind fun k hk => by rw [qm_add, qm_mul, qm_mul, qm_mul, qm_add]; exact qm_of (by grind)
  zero_mul := qm_ind fun f hf => by rw [qm_0, qm_mul]; exact qm_of (by grind)
  pow_zero := fun f => rfl
  pow_succ := fun f n => rfl
  ofNat_succ := fun n => by rw [qm_ofNat, qm_ofNat, qm_1, qm_add]; exact qm_of (Semiring.ofNat_succ n)
  ofNat_eq_natCast := fun n => by rw [qm_ofNat, qm_nat]; exact qm_of (Semiring.ofNat_eq_natCast n)
  nsmul_eq_natCast_mul := fun n f => rfl
  neg_add_cancel := qm_ind fun f hf => by rw [qm_neg, qm_add, qm_0]; exact qm_of (by grind)
  sub_eq_add_neg := qm_ind fun f hf => qm_ind fun g hg => by rw [qm_sub, qm_neg, qm_add]; exact qm_of (by grind)
  neg_zsmul := fun n => qm_ind fun f hf => by
    show ((-n : Int) : Qr M) * _ = -((n : Qr M) * _)
    rw [qm_int, qm_int, qm_mul, qm_mul, qm_neg]
    exact qm_of (by rw [show (((-n : Int)) : PS K) = -((n : Int) : PS K) from Ring.intCast_neg n]; grind)
  zsmul_natCast_eq_nsmul := fun n => qm_ind fun f hf => by
    show (((n : Int)) : Qr M) * _ = ((n : Qr M) * _)
    rw [qm_int, qm_nat, qm_mul, qm_mul]
    exact qm_of (by rw [show (((n : Int)) : PS K) = ((n : Nat) : PS K) from Ring.intCast_natCast n])
  intCast_ofNat := fun n => by rw [qm_int, qm_ofNat]; exact qm_of (Ring.intCast_ofNat n)
  intCast_neg := fun n => by rw [qm_int, qm_int, qm_neg]; exact qm_of (Ring.intCast_neg n)
}
example (a b c : Qr M) : (a + b) * c = c * b + a * c := by grind
end
/-! ### rows again: sums, shifts, single items -/
section
variable {K : Type} [CommRing K]
/-! ### members -/
def Mem (p : Int) (n : Nat) (a : List Int) : Prop := a.length = n ∧ ∀ x ∈ a, In p x
variable (K) in
def cls (m a : List Int) : Qr (pl K m) := qm (pl K m) (pl K a) (fin_pl a)
theorem Mem.at {p : Int} {n : Nat} {a : List Int} (h : Mem p n a) (p0 : 0 < p) (i : Nat) : In p (a.getD i 0) := by
  by_cases e : i < a.length
  · rw [List.getD_eq_getElem?_getD, List.getElem?_eq_getElem e]
    exact h.2 _ (List.getElem_mem e)
  · rw [getD_ge (by omega)]
    exact ⟨Int.le_refl _, p0⟩
theorem cls_mul {m a b c : List Int} {u : PS K} (hu : fin u) (e : pl K a * pl K b = u * pl K m + pl K c) : cls K m c = cls K m a * cls K m b := by
  unfold cls
  rw [qm_mul]
  refine (qm_eq ⟨u, hu, ?_⟩).symm
  rw [e]
  grind
end
/-! ### digits -/
def dg (p : Int) : Nat → Int → List Int
  | 0, _ => []
  | n + 1, v => v % p :: dg p n (v / p)
theorem dg_len (p : Int) : ∀ (n : Nat) (v : Int), (dg p n v).length = n
  | 0, _ => rfl
  | n + 1, v => by
    show (dg p n (v / p)).length + 1 = _
    rw [dg_len p n]
theorem dg_in {p : Int} (p0 : 0 < p) : ∀ (n : Nat) (v : Int), ∀ x ∈ dg p n v, In p x
  | 0, _ => fun x hx => nomatch hx
  | n + 1, v => fun x hx => by
    rcases List.mem_cons.mp hx with rfl | h
    · exact ⟨Int.emod_nonneg _ (by omega), Int.emod_lt_of_pos _ p0⟩
    · exact dg_in p0 n _ x h
theorem dg_mem {p : Int} (p0 : 0 < p) (n : Nat) (v : Int) : Mem p n (dg p n v) := ⟨dg_len p n v, dg_in p0 n v⟩
theorem dg_surj {p : Int} (p0 : 0 < p) : ∀ (n : Nat) (a : List Int), Mem p n a → ∃ v : Int, 0 ≤ v ∧ v < p ^ n ∧ a = dg p n v
  | 0, a, h => ⟨0, by decide, by show (0 : Int) < p ^ 0; rw [Int.pow_zero]; decide, List.eq_nil_of_length_eq_zero h.1⟩
  | n + 1, [], h => by cases h.1
  | n + 1, x :: a, h => by
    obtain ⟨v, v0, v1, e⟩ := dg_surj p0 n a ⟨Nat.succ.inj h.1, fun y hy => h.2 y (List.mem_cons_of_mem _ hy)⟩
    have hx := h.2 x List.mem_cons_self
    have hx0 := hx.1
    have hx1 := hx.2
    refine ⟨x + p * v, ?_, ?_, ?_⟩
    · have := Int.mul_nonneg (Int.le_of_lt p0) v0
      omega
    · rw [Int.pow_succ, Int.mul_comm (p ^ n)]
      have h2 : p * (v + 1) ≤ p * p ^ n := Int.mul_le_mul_of_nonneg_left (by omega) (by omega)
      rw [Int.mul_add, Int.mul_one] at h2
      omega
    · show x :: a = (x + p * v) % p :: dg p n ((x + p * v) / p)
      rw [Int.add_mul_emod_self_left, Int.emod_eq_of_lt hx.1 hx.2, Int.add_mul_ediv_left _ _ (by omega), Int.ediv_eq_zero_of_lt hx.1 hx.2, Int.zero_add, ← e]
/-! ### powers -/
section
variable {R : Type} [CommRing R]
end
end Pol
set_option Elab.async false
set_option linter.all false
namespace PM
open PySem PySem.Spec PyProof.Rows L2 Mir
instance (priority := low) nmLib : Nm := ⟨fun _ _ => "", fun _ => false⟩
abbrev O_Field : Type := Int × (List Int) × Int × Int × (List (List Int)) × (List (List Int)) × (List ((List Int) × Int)) × (List (PySem.Str × (List Int)))
def m__law_state_b1 (s9 : Int × Int) (x26 : Int) : R (Int × Int) :=
  R.ok (((s9.1 * (1000003 : Int)) + (pabs x26)), (((s9.2 * (48271 : Int)) + x26) % (2147483647 : Int)))
def m__law_state (a_script : (List Int)) : R (List Int) :=
  (foldR m__law_state_b1 ((0 : Int), (1 : Int)) (cutT a_script none (some (63 : Int)))).bind fun s4 => R.ok ([s4.1, s4.2])
def m__law_take (a_state : (List Int)) (a_m : Int) : R (Int × (List Int)) :=
  (getL a_state (0 : Int)).bind fun t1 => if (decide ((0 : Int) < t1)) = true then ((getL a_state (0 : Int)).bind fun t5 => grd (0 < a_m) <| (getL a_state (0 : Int)).bind fun t9 => grd (CDiv t9 a_m) <| (setL a_state (0 : Int) (t9 / a_m)).bind fun t13 => R.ok ((t5 % a_m), t13)) else ((getL a_state (1 : Int)).bind fun t17 => (setL a_state (1 : Int) (((t17 * (48271 : Int)) + (11 : Int)) % (2147483647 : Int))).bind fun t20 => (getL t20 (1 : Int)).bind fun t24 => grd (0 < a_m) <| R.ok (((t24 / (7 : Int)) % a_m), t20))
def m__law_trim_b1 (a_p : Int) (s11 : List Int) (x12 : Int) : R (List Int) :=
  grd (0 < a_p) <| grd (lenLt s11) <| R.ok (s11 ++ [(x12 % a_p)])
def m__law_trim_b2 (s38 : (List Int)) : R Bool :=
  (andR (R.ok (decide ((0 : Int) < ((s38).length : Int)))) ((getL s38 (((s38).length : Int) - (1 : Int))).bind fun t53 => R.ok (decide (t53 = (0 : Int))))).bind fun t56 => R.ok t56
def m__law_trim_b3 (s38 : (List Int)) : R ((List Int)) :=
  (popL s38).bind fun t66 => R.ok t66.2
def m__law_trim (a_row : (List Int)) (a_p : Int) : R (List Int) :=
  (foldR (m__law_trim_b1 a_p) ([]) a_row).bind fun s18 => (whileR m__law_trim_b2 m__law_trim_b3 100000 s18).bind fun s34 => R.ok s34
def m__law_rest_b1 (a_p : Int) (s12 : List Int) (x13 : Int) : R (List Int) :=
  grd (0 < a_p) <| grd (lenLt s12) <| R.ok (s12 ++ [(x13 % a_p)])
def m__law_rest_b2 (a_m : (List Int)) (s42 : (List Int)) : R Bool :=
  R.ok (decide (((a_m).length : Int) ≤ ((s42).length : Int)))
def m__law_rest_b3 (a_m : (List Int)) (a_p : Int) (s42 : (List Int)) (t57 : Int) (s68 : (List Int)) (x74 : Int) : R ((List Int)) :=
  (getL s68 ((((s42).length : Int) - ((a_m).length : Int)) + x74)).bind fun t81 => (getL a_m x74).bind fun t84 => grd (CMul t57 t84) <| grd (0 < a_p) <| (setL s68 ((((s42).length : Int) - ((a_m).length : Int)) + x74) ((t81 - (t57 * t84)) % a_p)).bind fun t89 => R.ok t89
def m__law_rest_b4 (a_m : (List Int)) (a_p : Int) (s42 : (List Int)) : R ((List Int)) :=
  (getL s42 (((s42).length : Int) - (1 : Int))).bind fun t57 => (grd (rgOk ((a_m).length : Int)) <| foldR (m__law_rest_b3 a_m a_p s42 t57) s42 (rng 0 (((a_m).length : Int)).toNat)).bind fun s63 => (popL s63).bind fun t102 => R.ok t102.2
def m__law_rest (a_a : (List Int)) (a_m : (List Int)) (a_p : Int) : R (List Int) :=
  (foldR (m__law_rest_b1 a_p) ([]) a_a).bind fun s19 => (whileR (m__law_rest_b2 a_m) (m__law_rest_b4 a_m a_p) 100000 s19).bind fun s35 => (m__law_trim s35 a_p).bind fun t108 => R.ok t108
def m_is_integer (a_value : V) : R Bool :=
  (andR (grd (scalV a_value = true) <| R.ok (isIntV a_value)) (grd (scalV a_value = true) <| R.ok (!(isBoolV a_value)))).bind fun t7 => R.ok t7
def m_least_divisor_b1 (a_n : Int) (s8 : Int) : R Bool :=
  grd (CMul s8 s8) <| R.ok (decide ((s8 * s8) ≤ a_n))
def m_least_divisor_b2 (a_n : Int) (s8 : Int) : R (Lp (Int) (Int)) :=
  grd (0 < s8) <| if (decide ((a_n % s8) = (0 : Int))) = true then (R.ok (Lp.rt s8)) else (((R.ok (decide (s8 = (2 : Int)))).bind fun b => if b = true then R.ok (3 : Int) else R.ok (s8 + (2 : Int))).bind fun t29 => R.ok (Lp.nx t29))
def m_least_divisor (a_n : Int) (a_start : Int) : R Int :=
  (whileL (m_least_divisor_b1 a_n) (m_least_divisor_b2 a_n) 100000 a_start).bind fun o => Le.thn o (fun s4 => R.ok a_n) (fun r => R.ok r)
def m_is_prime (a_n : Int) : R Bool :=
  (andR (R.ok (decide ((1 : Int) < a_n))) ((m_least_divisor a_n (2 : Int)).bind fun t5 => R.ok (decide (t5 = a_n)))).bind fun t8 => R.ok t8
def m_power_within_b1 (a_a : Int) (a_limit : Int) (s9 : Int) (x15 : Int) : R (Lp (Int) ((Option Int))) :=
  grd (CMul s9 a_a) <| if (decide (a_limit < (s9 * a_a))) = true then (R.ok (Lp.rt (none : (Option Int)))) else (R.ok (Lp.nx (s9 * a_a)))
def m_power_within (a_a : Int) (a_k : Int) (a_limit : Int) : R (Option Int) :=
  (grd (rgOk a_k) <| loopR (m_power_within_b1 a_a a_limit) (1 : Int) (rng 0 (a_k).toNat)).bind fun o => Le.thn o (fun s4 => R.ok (some s4)) (fun r => R.ok r)
def m_cofactors_b1 (s9 : Int × Int × Int × Int × Int × Int) : R Bool :=
  R.ok (!decide (s9.2.2.2.1 = (0 : Int)))
def m_cofactors_b2 (s9 : Int × Int × Int × Int × Int × Int) : R (Int × Int × Int × Int × Int × Int) :=
  grd (CDivN s9.1 s9.2.2.2.1) <| grd (CMul (Int.fdiv s9.1 s9.2.2.2.1) s9.2.2.2.1) <| grd (CMul (Int.fdiv s9.1 s9.2.2.2.1) s9.2.2.2.2.1) <| grd (CMul (Int.fdiv s9.1 s9.2.2.2.1) s9.2.2.2.2.2) <| R.ok (s9.2.2.2.1, s9.2.2.2.2.1, s9.2.2.2.2.2, (s9.1 - ((Int.fdiv s9.1 s9.2.2.2.1) * s9.2.2.2.1)), (s9.2.1 - ((Int.fdiv s9.1 s9.2.2.2.1) * s9.2.2.2.2.1)), (s9.2.2.1 - ((Int.fdiv s9.1 s9.2.2.2.1) * s9.2.2.2.2.2)))
def m_cofactors (a_a : Int) (a_b : Int) : R (Int × Int × Int) :=
  (whileR m_cofactors_b1 m_cofactors_b2 100000 (a_a, (1 : Int), (0 : Int), a_b, (0 : Int), (1 : Int))).bind fun s4 => if (decide (s4.1 < (0 : Int))) = true then (R.ok ((-s4.1), (-s4.2.1), (-s4.2.2.1))) else (R.ok (s4.1, s4.2.1, s4.2.2.1))
def m_inverse_modulo (a_a : Int) (a_m : Int) : R Int :=
  (noEr (m_cofactors a_a a_m)).bind fun t1 => if (!decide (t1.1 = (1 : Int))) = true then (R.er .zd) else (grd (0 < a_m) <| R.ok (t1.2.1 % a_m))
def m_without_end_b1 (a_items : (List Int)) (a_zero : Int) (s8 : Int) : R Bool :=
  (andR (R.ok (decide ((0 : Int) < s8))) ((getL a_items (s8 - (1 : Int))).bind fun t22 => R.ok (decide (t22 = a_zero)))).bind fun t25 => R.ok t25
def m_without_end_b2 (s8 : Int) : R (Int) :=
  R.ok (s8 - (1 : Int))
def m_without_end (a_items : (List Int)) (a_zero : Int) : R (List Int) :=
  (whileR (m_without_end_b1 a_items a_zero) m_without_end_b2 100000 ((a_items).length : Int)).bind fun s4 => R.ok (cutT a_items none (some s4))
def m_trimmed_b1 (a_p : Int) (s11 : List Int) (x12 : Int) : R (List Int) :=
  grd (0 < a_p) <| grd (lenLt s11) <| R.ok (s11 ++ [(x12 % a_p)])
def m_trimmed (a_row : (List Int)) (a_p : Int) : R (List Int) :=
  (foldR (m_trimmed_b1 a_p) ([]) a_row).bind fun s18 => (m_without_end s18 (0 : Int)).bind fun t31 => R.ok t31
def m_divide_rows_b1 (a_p : Int) (x45 : Int) (t62 : (List Int)) (s75 : (List Int)) (x85 : (Int × Int)) : R ((List Int)) :=
  (getL s75 (x45 + x85.1)).bind fun t102 => (getL t62 x45).bind fun t105 => grd (CMul t105 x85.2) <| grd (0 < a_p) <| (setL s75 (x45 + x85.1) ((t102 - (t105 * x85.2)) % a_p)).bind fun t110 => R.ok t110
def m_divide_rows_b2 (a_b : (List Int)) (a_p : Int) (t5 : Int) (s39 : (List Int) × (List Int)) (x45 : Int) : R ((List Int) × (List Int)) :=
  (getL s39.1 ((x45 + ((a_b).length : Int)) - (1 : Int))).bind fun t57 => grd (CMul t57 t5) <| grd (0 < a_p) <| (setL s39.2 x45 ((t57 * t5) % a_p)).bind fun t62 => (foldR (m_divide_rows_b1 a_p x45 t62) s39.1 (enumF a_b)).bind fun s69 => R.ok (s69, t62)
def m_divide_rows (a_a : (List Int)) (a_b : (List Int)) (a_p : Int) : R ((List Int) × (List Int)) :=
  if (!(!(a_b).isEmpty)) = true then (R.er .zd) else ((getL a_b (-(1 : Int))).bind fun t2 => (m_inverse_modulo t2 a_p).bind fun t5 => grd (repOk ([(0 : Int)]) ((((a_a).length : Int) - ((a_b).length : Int)) + (1 : Int))) <| (grd (rgOk ((((a_a).length : Int) - ((a_b).length : Int)) + (1 : Int))) <| foldR (m_divide_rows_b2 a_b a_p t5) (a_a, (repL ([(0 : Int)]) ((((a_a).length : Int) - ((a_b).length : Int)) + (1 : Int)))) (rngC (((((((a_a).length : Int) - ((a_b).length : Int)) + (1 : Int))).toNat : Int) - 1) (-1) (((((a_a).length : Int) - ((a_b).length : Int)) + (1 : Int))).toNat)).bind fun s32 => (noEr (m_trimmed s32.2 a_p)).bind fun t124 => (noEr (m_trimmed s32.1 a_p)).bind fun t129 => R.ok (t124, t129))
def m_multiply_rows_b1 (x35 : (Int × Int)) (s63 : (List Int)) (x73 : (Int × Int)) : R ((List Int)) :=
  (getL s63 (x35.1 + x73.1)).bind fun t90 => grd (CMul x35.2 x73.2) <| (setL s63 (x35.1 + x73.1) (t90 + (x35.2 * x73.2))).bind fun t94 => R.ok t94
def m_multiply_rows_b2 (a_b : (List Int)) (s25 : (List Int)) (x35 : (Int × Int)) : R ((List Int)) :=
  (foldR (m_multiply_rows_b1 x35) s25 (enumF a_b)).bind fun s57 => R.ok s57
def m_multiply_rows (a_a : (List Int)) (a_b : (List Int)) (a_p : Int) : R (List Int) :=
  grd (repOk ([(0 : Int)]) (((a_a).length : Int) + ((a_b).length : Int))) <| (foldR (m_multiply_rows_b2 a_b) (repL ([(0 : Int)]) (((a_a).length : Int) + ((a_b).length : Int))) (enumF a_a)).bind fun s17 => (m_trimmed s17 a_p).bind fun t108 => R.ok t108
def m_lam1 (k_m : (List Int)) (k_p : Int) (a_x : (List Int)) (a_y : (List Int)) : R (List Int) :=
  (noEr (m_multiply_rows a_x a_y k_p)).bind fun t1 => (m_divide_rows t1 k_m k_p).bind fun t6 => R.ok t6.2
def m_by_squaring_b1 (s10 : (List Int) × (List Int) × Int) : R Bool :=
  R.ok (decide ((0 : Int) < s10.2.2))
def m_by_squaring_b2 (a_product : ((List Int) → (List Int) → R (List Int))) (s10 : (List Int) × (List Int) × Int) : R ((List Int) × (List Int) × Int) :=
  (if (decide ((s10.2.2 % (2 : Int)) = (1 : Int))) = true then ((a_product s10.1 s10.2.1).bind fun t33 => R.ok t33) else (R.ok s10.1)).bind fun s28 => if (decide ((0 : Int) < (s10.2.2 / (2 : Int)))) = true then ((a_product s10.2.1 s10.2.1).bind fun t43 => R.ok (s28, t43, (s10.2.2 / (2 : Int)))) else (R.ok (s28, s10.2.1, (s10.2.2 / (2 : Int))))
def m_by_squaring (a_one : (List Int)) (a_base : (List Int)) (a_k : Int) (a_product : ((List Int) → (List Int) → R (List Int))) : R (List Int) :=
  (whileR m_by_squaring_b1 (m_by_squaring_b2 a_product) 100000 (a_one, a_base, a_k)).bind fun s4 => R.ok s4.1
def m_power_row (a_a : (List Int)) (a_k : Int) (a_m : (List Int)) (a_p : Int) : R (List Int) :=
  (m_divide_rows a_a a_m a_p).bind fun t1 => (m_by_squaring ([(1 : Int)]) t1.2 a_k (m_lam1 a_m a_p)).bind fun t18 => R.ok t18
def m_filled_up (a_items : (List Int)) (a_length : Int) (a_zero : Int) : R (List Int) :=
  grd (([a_zero]).isEmpty = false) <| grd (repOk ([a_zero]) (a_length - ((a_items).length : Int))) <| grd (lenOk (a_items ++ (repL ([a_zero]) (a_length - ((a_items).length : Int))))) <| R.ok (a_items ++ (repL ([a_zero]) (a_length - ((a_items).length : Int))))
def m_add_rows_b1 (s28 : List Int) (x29 : (Int × Int)) : R (List Int) :=
  grd (lenLt s28) <| R.ok (s28 ++ [(x29.1 + x29.2)])
def m_add_rows (a_a : (List Int)) (a_b : (List Int)) (a_p : Int) : R (List Int) :=
  (m_filled_up a_a (pmax ((a_a).length : Int) ((a_b).length : Int)) (0 : Int)).bind fun t1 => (m_filled_up a_b (pmax ((a_a).length : Int) ((a_b).length : Int)) (0 : Int)).bind fun t6 => (foldR m_add_rows_b1 ([]) (t1.zip t6)).bind fun s35 => (m_trimmed s35 a_p).bind fun t56 => R.ok t56
def m_subtract_rows_b1 (s12 : List Int) (x13 : Int) : R (List Int) :=
  grd (lenLt s12) <| R.ok (s12 ++ [(-x13)])
def m_subtract_rows (a_a : (List Int)) (a_b : (List Int)) (a_p : Int) : R (List Int) :=
  (foldR m_subtract_rows_b1 ([]) a_b).bind fun s19 => (m_add_rows a_a s19 a_p).bind fun t31 => R.ok t31
def m_common_row_b1 (s10 : (List Int) × (List Int)) : R Bool :=
  R.ok (!(s10.2).isEmpty)
def m_common_row_b2 (a_p : Int) (s10 : (List Int) × (List Int)) : R ((List Int) × (List Int)) :=
  (m_divide_rows s10.1 s10.2 a_p).bind fun t25 => R.ok (s10.2, t25.2)
def m_common_row (a_a : (List Int)) (a_b : (List Int)) (a_p : Int) : R (List Int) :=
  (whileR m_common_row_b1 (m_common_row_b2 a_p) 100000 (a_a, a_b)).bind fun s4 => if (!(!(s4.1).isEmpty)) = true then (R.ok ([])) else ((getL s4.1 (-(1 : Int))).bind fun t43 => (m_inverse_modulo t43 a_p).bind fun t46 => (noEr (m_multiply_rows s4.1 ([t46]) a_p)).bind fun t53 => R.ok t53)
def m_is_irreducible_row_b1 (a_m : (List Int)) (a_p : Int) (s15 : (List Int)) (x21 : Int) : R (Lp ((List Int)) (Bool)) :=
  (m_power_row s15 a_p a_m a_p).bind fun t29 => (noEr (m_subtract_rows t29 ([(0 : Int), (1 : Int)]) a_p)).bind fun t34 => (m_common_row a_m t34 a_p).bind fun t39 => if (decide ((1 : Int) < ((t39).length : Int))) = true then (R.ok (Lp.rt false)) else (R.ok (Lp.nx t29))
def m_is_irreducible_row (a_m : (List Int)) (a_p : Int) : R Bool :=
  if (decide ((((a_m).length : Int) - (1 : Int)) < (1 : Int))) = true then (R.ok false) else ((grd (rgOk ((((a_m).length : Int) - (1 : Int)) / (2 : Int))) <| loopR (m_is_irreducible_row_b1 a_m a_p) ([(0 : Int), (1 : Int)]) (rng 0 (((((a_m).length : Int) - (1 : Int)) / (2 : Int))).toNat)).bind fun o => Le.thn o (fun s9 => R.ok true) (fun r => R.ok r))
def m_check_making_b1 (a_p : Int) (s32 : List Bool) (x33 : Int) : R (List Bool) :=
  (andR ((noEr (m_is_integer (V.int x33))).bind fun t47 => R.ok t47) (R.ok ((decide ((0 : Int) ≤ x33)) && (decide (x33 < a_p))))).bind fun t53 => grd (lenLt s32) <| R.ok (s32 ++ [t53])
def m_check_making (a_p : Int) (a_modulus : (List Int)) : R Unit :=
  (orR ((noEr (m_is_integer (V.int a_p))).bind fun t3 => R.ok (!t3)) ((noEr (m_is_prime a_p)).bind fun t9 => R.ok (!t9))).bind fun t12 => if t12 = true then (R.er .mal) else (if (!(true || false)) = true then (R.er .mal) else ((foldR (m_check_making_b1 a_p) ([]) a_modulus).bind fun s39 => if (!((s39).all id)) = true then (R.er .mal) else ((orR (R.ok (decide (((a_modulus).length : Int) < (2 : Int)))) ((getL a_modulus (-(1 : Int))).bind fun t69 => R.ok (!decide (t69 = (1 : Int))))).bind fun t72 => if t72 = true then (R.er .mal) else ((noEr (m_power_within a_p (((a_modulus).length : Int) - (1 : Int)) (400 : Int))).bind fun t76 => if (t76).isNone = true then R.out else ((m_is_irreducible_row a_modulus a_p).bind fun t82 => if (!t82) = true then (R.er .mal) else (R.ok ()))))))
def m_digits_b1 (a_base : Int) (s15 : (List Int) × Int) (x21 : Int) : R ((List Int) × Int) :=
  grd (0 < a_base) <| grd (lenLt s15.1) <| grd (CDiv s15.2 a_base) <| R.ok ((s15.1 ++ [(s15.2 % a_base)]), (s15.2 / a_base))
def m_digits (a_number : Int) (a_base : Int) (a_count : Int) : R (List Int) :=
  (grd (rgOk a_count) <| foldR (m_digits_b1 a_base) (([] : List Int), a_number) (rng 0 (a_count).toNat)).bind fun s10 => R.ok s10.1
def m_powers_of_b1 (a_a : (List Int)) (a_p : Int) (a_modulus : (List Int)) (s8 : List (List Int)) (x9 : Int) : R (List (List Int)) :=
  grd (([(0 : Int)]).isEmpty = false) <| grd (repOk ([(0 : Int)]) x9) <| grd (lenOk ((repL ([(0 : Int)]) x9) ++ a_a)) <| (noEr (m_trimmed ((repL ([(0 : Int)]) x9) ++ a_a) a_p)).bind fun t36 => (noEr (m_divide_rows t36 a_modulus a_p)).bind fun t41 => (noEr (m_filled_up t41.2 (((a_modulus).length : Int) - (1 : Int)) (0 : Int))).bind fun t49 => grd (lenLt s8) <| R.ok (s8 ++ [t49])
def m_powers_of_b2 (t64 : (List Int)) (s84 : (List (List Int)) × (List Int)) : R Bool :=
  R.ok (!decide (s84.2 = t64))
def m_powers_of_b3 (x113 : Int) (s145 : List Int) (x146 : (Int × (List Int))) : R (List Int) :=
  (getL x146.2 x113).bind fun t167 => grd (CMul x146.1 t167) <| grd (lenLt s145) <| R.ok (s145 ++ [(x146.1 * t167)])
def m_powers_of_b4 (a_p : Int) (s15 : List (List Int)) (s84 : (List (List Int)) × (List Int)) (s112 : List Int) (x113 : Int) : R (List Int) :=
  (foldR (m_powers_of_b3 x113) ([]) (s84.2.zip s15)).bind fun s152 => grd (0 < a_p) <| grd (lenLt s112) <| R.ok (s112 ++ [(((s152).sum) % a_p)])
def m_powers_of_b5 (a_p : Int) (a_modulus : (List Int)) (s15 : List (List Int)) (s84 : (List (List Int)) × (List Int)) : R ((List (List Int)) × (List Int)) :=
  grd (lenLt s84.1) <| grd (rgOk (((a_modulus).length : Int) - (1 : Int))) <| (foldR (m_powers_of_b4 a_p s15 s84) ([]) (rng 0 ((((a_modulus).length : Int) - (1 : Int))).toNat)).bind fun s119 => R.ok ((s84.1 ++ [s84.2]), s119)
def m_powers_of (a_a : (List Int)) (a_p : Int) (a_modulus : (List Int)) : R (List (List Int)) :=
  grd (rgOk (((a_modulus).length : Int) - (1 : Int))) <| (foldR (m_powers_of_b1 a_a a_p a_modulus) ([]) (rng 0 ((((a_modulus).length : Int) - (1 : Int))).toNat)).bind fun s15 => (noEr (m_filled_up ([(1 : Int)]) (((a_modulus).length : Int) - (1 : Int)) (0 : Int))).bind fun t64 => (whileR (m_powers_of_b2 t64) (m_powers_of_b5 a_p a_modulus s15) 100000 ([t64], a_a)).bind fun s79 => R.ok s79.1
def m_primitive_powers_b1 (a_members : (List (List Int))) (s17 : Int × (List (List Int))) : R Bool :=
  R.ok (decide (((s17.2).length : Int) < (((a_members).length : Int) - (1 : Int))))
def m_primitive_powers_b2 (a_members : (List (List Int))) (a_p : Int) (a_modulus : (List Int)) (s17 : Int × (List (List Int))) : R (Int × (List (List Int))) :=
  (getL a_members (s17.1 + (1 : Int))).bind fun t30 => (m_powers_of t30 a_p a_modulus).bind fun t33 => R.ok ((s17.1 + (1 : Int)), t33)
def m_primitive_powers (a_members : (List (List Int))) (a_p : Int) (a_modulus : (List Int)) : R (List (List Int)) :=
  (getL a_members (1 : Int)).bind fun t1 => (m_powers_of t1 a_p a_modulus).bind fun t4 => (whileR (m_primitive_powers_b1 a_members) (m_primitive_powers_b2 a_members a_p a_modulus) 100000 ((1 : Int), t4)).bind fun s12 => R.ok s12.2
def m_written_power (a_name : PySem.Str) (a_k : Int) : R PySem.Str :=
  ((R.ok (decide (a_k = (1 : Int)))).bind fun b => if b = true then R.ok a_name else grd (strOk a_name) <| grd (strOk ((PySem.Str.empty) ++ a_name)) <| grd (strOk (((PySem.Str.empty) ++ a_name) ++ ("^" : PySem.Str))) <| grd (fmtOk a_k) <| grd (strOk ((((PySem.Str.empty) ++ a_name) ++ ("^" : PySem.Str)) ++ ((toString a_k : String) : PySem.Str))) <| R.ok ((((PySem.Str.empty) ++ a_name) ++ ("^" : PySem.Str)) ++ ((toString a_k : String) : PySem.Str))).bind fun t13 => R.ok t13
def m_written_term (a_coefficient : Int) (a_k : Int) : R PySem.Str :=
  if (decide (a_k = (0 : Int))) = true then (grd (fmtOk a_coefficient) <| R.ok ((toString a_coefficient : String) : PySem.Str)) else ((m_written_power ("t" : PySem.Str) a_k).bind fun t3 => ((R.ok (decide (a_coefficient = (1 : Int)))).bind fun b => if b = true then R.ok t3 else grd (fmtOk a_coefficient) <| grd (strOk ((PySem.Str.empty) ++ ((toString a_coefficient : String) : PySem.Str))) <| grd (strOk (((PySem.Str.empty) ++ ((toString a_coefficient : String) : PySem.Str)) ++ ("*" : PySem.Str))) <| grd (strOk t3) <| grd (strOk ((((PySem.Str.empty) ++ ((toString a_coefficient : String) : PySem.Str)) ++ ("*" : PySem.Str)) ++ t3)) <| R.ok ((((PySem.Str.empty) ++ ((toString a_coefficient : String) : PySem.Str)) ++ ("*" : PySem.Str)) ++ t3)).bind fun t18 => R.ok t18)
def m_Field_written_b1 (a_a : (List Int)) (s8 : List PySem.Str) (x9 : Int) : R (List PySem.Str) :=
  (getL a_a x9).bind fun t23 => if (!decide (t23 = (0 : Int))) = true then ((getL a_a x9).bind fun t27 => (m_written_term t27 x9).bind fun t30 => grd (lenLt s8) <| R.ok (s8 ++ [t30])) else R.ok s8
def m_Field_written (a_self : (Int × (List Int) × Int × Int × (List (List Int)) × (List (List Int)) × (List ((List Int) × Int)))) (a_a : (List Int)) : R PySem.Str :=
  grd (rgOk a_self.2.2.1) <| (foldR (m_Field_written_b1 a_a) ([]) (rngC (((a_self.2.2.1).toNat : Int) - 1) (-1) (a_self.2.2.1).toNat)).bind fun s15 => ((R.ok (!(s15).isEmpty)).bind fun b => if b = true then grd (joinOk ("+" : PySem.Str) s15) <| R.ok (Txt.join ("+" : PySem.Str) s15) else R.ok ("0" : PySem.Str)).bind fun t47 => R.ok t47
def m_Field___init___b1 (a_p : Int) (a_modulus : (List Int)) (s30 : List (List Int)) (x31 : Int) : R (List (List Int)) :=
  (noEr (m_digits x31 a_p (((a_modulus).length : Int) - (1 : Int)))).bind fun t43 => grd (lenLt s30) <| R.ok (s30 ++ [t43])
def m_Field___init___b2 (s78 : (List ((List Int) × Int))) (x79 : (Int × (List Int))) : R (List ((List Int) × Int)) :=
  grd (lenLt s78) <| R.ok (putM s78 x79.2 x79.1)
def m_Field___init___b3 (a_p : Int) (a_modulus : (List Int)) (t18 : Int) (s37 : List (List Int)) (t61 : (List (List Int))) (s87 : (List ((List Int) × Int))) (s121 : (List (PySem.Str × (List Int)))) (x122 : (List Int)) : R (List (PySem.Str × (List Int))) :=
  (noEr (m_Field_written (a_p, a_modulus, (((a_modulus).length : Int) - (1 : Int)), t18, s37, t61, s87) x122)).bind fun t136 => grd (lenLt s121) <| R.ok (putM s121 t136 x122)
def m_Field___init__ (a_self : Unit) (a_p : Int) (a_modulus : (List Int)) : R O_Field :=
  (m_check_making a_p a_modulus).bind fun t1 => (noEr (m_power_within a_p (((a_modulus).length : Int) - (1 : Int)) (400 : Int))).bind fun t13 => (unO t13).bind fun t18 => grd (rgOk t18) <| (foldR (m_Field___init___b1 a_p a_modulus) ([]) (rng 0 (t18).toNat)).bind fun s37 => (m_primitive_powers s37 a_p a_modulus).bind fun t61 => (foldR m_Field___init___b2 [] (enumF t61)).bind fun s87 => (foldR (m_Field___init___b3 a_p a_modulus t18 s37 t61 s87) [] s37).bind fun s130 => R.ok (a_p, a_modulus, (((a_modulus).length : Int) - (1 : Int)), t18, s37, t61, s87, s130)
def m__law_member_b1 (a_plan : (Int × (List Int))) (s12 : List Int × List Int) (x13 : Int) : R (List Int × List Int) :=
  (m__law_take s12.2 a_plan.1).bind fun t29 => grd (lenLt s12.1) <| R.ok ((s12.1 ++ [t29.1]), t29.2)
def m__law_member (a_state : (List Int)) (a_plan : (Int × (List Int))) : R ((List Int) × (List Int)) :=
  grd (rgOk (((a_plan.2).length : Int) - (1 : Int))) <| (foldR (m__law_member_b1 a_plan) ([], a_state) (rng 0 ((((a_plan.2).length : Int) - (1 : Int))).toNat)).bind fun s19 => R.ok (s19.1, s19.2)
def m_Field_zero (a_self : O_Field) : R (List Int) :=
  (getL a_self.2.2.2.2.1 (0 : Int)).bind fun t3 => R.ok t3
def m_Field_one (a_self : O_Field) : R (List Int) :=
  (getL a_self.2.2.2.2.1 (1 : Int)).bind fun t3 => R.ok t3
def m_Field_multiply (a_self : O_Field) (a_a : (List Int)) (a_b : (List Int)) : R (List Int) :=
  (getL a_self.2.2.2.2.1 (0 : Int)).bind fun t3 => (orR (R.ok (decide (a_a = t3))) (R.ok (decide (a_b = t3)))).bind fun t10 => if t10 = true then (R.ok t3) else ((getM a_self.2.2.2.2.2.2.1 a_a).bind fun t18 => (getM a_self.2.2.2.2.2.2.1 a_b).bind fun t23 => grd (0 < (a_self.2.2.2.1 - (1 : Int))) <| (getL a_self.2.2.2.2.2.1 ((t18 + t23) % (a_self.2.2.2.1 - (1 : Int)))).bind fun t29 => R.ok t29)
def m_reciprocal (a_field : O_Field) (a_a : (List Int)) : R (List Int) :=
  (getL a_field.2.2.2.2.1 (0 : Int)).bind fun t3 => if (decide (a_a = t3)) = true then (R.er .zd) else ((getM a_field.2.2.2.2.2.2.1 a_a).bind fun t11 => (getL a_field.2.2.2.2.2.1 (-t11)).bind fun t14 => R.ok t14)
def m__law_fill_b1 (s15 : List Int) (x16 : Int) : R (List Int) :=
  grd (lenLt s15) <| R.ok (s15 ++ [(0 : Int)])
def m__law_fill (a_row : (List Int)) (a_n : Int) : R (List Int) :=
  grd (rgOk (a_n - ((a_row).length : Int))) <| (foldR m__law_fill_b1 ([]) (rng 0 ((a_n - ((a_row).length : Int))).toNat)).bind fun s22 => grd (lenOk (a_row ++ s22)) <| R.ok (a_row ++ s22)
def m__law_times_b1 (s8 : List Int) (x9 : Int) : R (List Int) :=
  grd (lenLt s8) <| R.ok (s8 ++ [(0 : Int)])
def m__law_times_b2 (a_a : (List Int)) (a_b : (List Int)) (x42 : Int) (s58 : (List Int)) (x64 : Int) : R ((List Int)) :=
  (getL s58 (x42 + x64)).bind fun t71 => (getL a_a x42).bind fun t74 => (getL a_b x64).bind fun t77 => grd (CMul t74 t77) <| (setL s58 (x42 + x64) (t71 + (t74 * t77))).bind fun t81 => R.ok t81
def m__law_times_b3 (a_a : (List Int)) (a_b : (List Int)) (s36 : (List Int)) (x42 : Int) : R ((List Int)) :=
  (grd (rgOk ((a_b).length : Int)) <| foldR (m__law_times_b2 a_a a_b x42) s36 (rng 0 (((a_b).length : Int)).toNat)).bind fun s53 => R.ok s53
def m__law_times (a_a : (List Int)) (a_b : (List Int)) (a_p : Int) : R (List Int) :=
  grd (rgOk (((a_a).length : Int) + ((a_b).length : Int))) <| (foldR m__law_times_b1 ([]) (rng 0 ((((a_a).length : Int) + ((a_b).length : Int))).toNat)).bind fun s15 => (grd (rgOk ((a_a).length : Int)) <| foldR (m__law_times_b3 a_a a_b) s15 (rng 0 (((a_a).length : Int)).toNat)).bind fun s30 => (m__law_trim s30 a_p).bind fun t92 => R.ok t92
def m__law_product (a_a : (List Int)) (a_b : (List Int)) (a_plan : (Int × (List Int))) : R (List Int) :=
  (m__law_times a_a a_b a_plan.1).bind fun t8 => (m__law_rest t8 a_plan.2 a_plan.1).bind fun t13 => (m__law_fill t13 (((a_plan.2).length : Int) - (1 : Int))).bind fun t18 => R.ok t18
def m_Field_inverse (a_self : O_Field) (a_a : (List Int)) : R (List Int) :=
  (m_reciprocal a_self a_a).bind fun t1 => R.ok t1
def m_Field_divide (a_self : O_Field) (a_a : (List Int)) (a_b : (List Int)) : R (List Int) :=
  (m_Field_inverse a_self a_b).bind fun t1 => (noEr (m_Field_multiply a_self a_a t1)).bind fun t6 => R.ok t6
def m_Field_power (a_self : O_Field) (a_a : (List Int)) (a_k : Int) : R (List Int) :=
  (noEr (m_Field_zero a_self)).bind fun t1 => if (!decide (a_a = t1)) = true then ((getM a_self.2.2.2.2.2.2.1 a_a).bind fun t11 => grd (CMul t11 a_k) <| grd (0 < (a_self.2.2.2.1 - (1 : Int))) <| (getL a_self.2.2.2.2.2.1 ((t11 * a_k) % (a_self.2.2.2.1 - (1 : Int)))).bind fun t18 => R.ok t18) else (if (decide (a_k < (0 : Int))) = true then (R.er .zd) else (((R.ok (decide (a_k = (0 : Int)))).bind fun b => if b = true then (noEr (m_Field_one a_self)).bind fun t26 => R.ok t26 else R.ok a_a).bind fun t34 => R.ok t34))
def m__law_refused (a_field : O_Field) (a_a : (List Int)) (a_which : Int) : R Bool :=
  (m_Field_zero a_field).bind fun t1 => (tryR ((if (decide (a_which = (0 : Int))) = true then ((m_Field_inverse a_field t1).bind fun t28 => R.ok ()) else (R.ok ())).bind fun s23 => (if (decide (a_which = (1 : Int))) = true then ((m_Field_divide a_field a_a t1).bind fun t42 => R.ok ()) else (R.ok ())).bind fun s37 => if (decide (a_which = (2 : Int))) = true then ((m_Field_power a_field t1 (-(1 : Int))).bind fun t49 => R.ok (Le.dn ())) else (R.ok (Le.dn ()))) (fun e => Er.on e (R.ok (Le.rt true)) (R.er (.mal)) (fun r => R.er (.refu r)) (fun i => R.er (.nt i)))).bind fun o => Le.thn o (fun (_ : Unit) => R.ok false) (fun r => R.ok r)
def m__law_member_v2_b1 (a_p : Int) (s15 : Int × (List Int)) (x21 : Int) : R (Int × (List Int)) :=
  grd (0 < a_p) <| grd (lenLt s15.2) <| grd (CDiv s15.1 a_p) <| R.ok ((s15.1 / a_p), (s15.2 ++ [(s15.1 % a_p)]))
def m__law_member_v2 (a_p : Int) (a_n : Int) (a_number : Int) : R (List Int) :=
  (grd (rgOk a_n) <| foldR (m__law_member_v2_b1 a_p) (a_number, ([] : List Int)) (rng 0 (a_n).toNat)).bind fun s10 => R.ok s10.2
def m__law_one (a_field : O_Field) : R (List Int) :=
  (m__law_member_v2 a_field.1 a_field.2.2.1 (1 : Int)).bind fun t5 => R.ok t5
def m__law_zero (a_field : O_Field) : R (List Int) :=
  (m__law_member_v2 a_field.1 a_field.2.2.1 (0 : Int)).bind fun t5 => R.ok t5
def m_prime_powers_b1 (s15 : (List (Int × Int)) × Int × Int) : R Bool :=
  R.ok (decide ((1 : Int) < s15.2.1))
def m_prime_powers_b2 (t28 : Int) (s38 : Int × Int) : R Bool :=
  grd (0 < t28) <| R.ok (decide ((s38.1 % t28) = (0 : Int)))
def m_prime_powers_b3 (t28 : Int) (s38 : Int × Int) : R (Int × Int) :=
  grd (CDiv s38.1 t28) <| R.ok ((s38.1 / t28), (s38.2 + (1 : Int)))
def m_prime_powers_b4 (s15 : (List (Int × Int)) × Int × Int) : R ((List (Int × Int)) × Int × Int) :=
  (m_least_divisor s15.2.1 s15.2.2).bind fun t28 => (whileR (m_prime_powers_b2 t28) (m_prime_powers_b3 t28) 100000 (s15.2.1, (0 : Int))).bind fun s34 => grd (lenLt s15.1) <| R.ok ((s15.1 ++ [(t28, s34.2)]), s34.1, t28)
def m_prime_powers (a_n : Int) : R (List (Int × Int)) :=
  (whileR m_prime_powers_b1 m_prime_powers_b4 100000 (([] : List (Int × Int)), a_n, (2 : Int))).bind fun s10 => R.ok s10.1
def m_lam2_v3 (k_field : O_Field) (k_a : (List Int)) (a_k : Int) : R Bool :=
  (m_Field_power k_field k_a a_k).bind fun t1 => (noEr (m_Field_one k_field)).bind fun t6 => R.ok (decide (t1 = t6))
def m_least_exponent_b1 (a_is_one : (Int → R Bool)) (x29 : (Int × Int)) (s52 : Int) (x58 : Int) : R (Int) :=
  grd (CDiv s52 x29.1) <| (a_is_one (s52 / x29.1)).bind fun t65 => if t65 = true then (grd (CDiv s52 x29.1) <| R.ok (s52 / x29.1)) else (R.ok s52)
def m_least_exponent_b2 (a_is_one : (Int → R Bool)) (s11 : Int) (x29 : (Int × Int)) : R (Int) :=
  (grd (rgOk x29.2) <| foldR (m_least_exponent_b1 a_is_one x29) s11 (rng 0 (x29.2).toNat)).bind fun s47 => R.ok s47
def m_least_exponent (a_start : Int) (a_is_one : (Int → R Bool)) : R Int :=
  ((noEr (m_prime_powers a_start)).bind fun t15 => foldR (m_least_exponent_b2 a_is_one) a_start t15).bind fun s4 => R.ok s4
end PM
set_option Elab.async false
set_option linter.all false
set_option maxRecDepth 100000
namespace PM
open PySem PySem.Spec PyProof.Rows L2 Mir
open Lean.Grind Pol
def St (t : List Int) : Prop := ∃ a b, t = [a, b]
theorem state_okA (ns : List Int) : ∃ t, m__law_state ns = .ok t ∧ St t := by
  obtain ⟨p, e⟩ := foldR_ok (f := m__law_state_b1) (fun s x => ⟨_, rfl⟩) (cutT ns none (some 63)) (0, 1)
  refine ⟨[p.1, p.2], ?_, _, _, rfl⟩
  unfold m__law_state
  rw [e]
  rfl
theorem take_okA {t : List Int} (h : St t) {m : Int} (h0 : 0 < m) (h1 : m < 1073741824) : ∃ v t', m__law_take t m = .ok (v, t') ∧ St t' ∧ 0 ≤ v ∧ v < m := by
  obtain ⟨s, u, rfl⟩ := h
  have g : getL [s, u] 0 = .ok s := rfl
  by_cases hs : 0 < s
  · refine ⟨s % m, [s / m, u], ?_, ⟨_, _, rfl⟩, Int.emod_nonneg _ (by omega), Int.emod_lt_of_pos _ h0⟩
    have st : setL [s, u] 0 (s / m) = .ok [s / m, u] := rfl
    simp only [m__law_take, g, st, R.bind_ok, hs, decide_true, if_true, grd_ok h0, grd_ok (show CDiv s m from ⟨h0, h1⟩)]
  · refine ⟨(u * 48271 + 11) % 2147483647 / 7 % m, [s, (u * 48271 + 11) % 2147483647], ?_, ⟨_, _, rfl⟩, Int.emod_nonneg _ (by omega), Int.emod_lt_of_pos _ h0⟩
    have g1 : getL [s, u] 1 = .ok u := rfl
    have st : ∀ y, setL [s, u] 1 y = .ok [s, y] := fun y => rfl
    have g2 : ∀ y, getL [s, y] 1 = .ok y := fun y => rfl
    simp only [m__law_take, g, g1, g2, st, R.bind_ok, hs, decide_false, if_false, grd_ok h0, Bool.false_eq_true]
/-- what a field's p and modulus are like -/
structure Fm (f : Int × List Int) (n : Nat) : Prop where
  p0 : 1 < f.1
  p1 : f.1 ≤ 100
  n0 : 1 ≤ n
  n1 : n ≤ 6
  q1 : f.1 ^ n < 1073741824
  len : f.2.length = n + 1
  top : f.2.getD n 0 = 1
  all : ∀ x ∈ f.2, In f.1 x
theorem Fm.m0 {f : Int × List Int} {n : Nat} (h : Fm f n) : ((f.2.length : Nat) : Int) - 1 = n := by rw [h.len]; omega
theorem Mem.getL {p : Int} {n : Nat} {a : List Int} (h : Mem p n a) {i : Nat} (hi : i < n) : Mir.getL a (i : Int) = .ok (a.getD i 0) := by
  have e := getL_int (l := a) (i := (i : Int)) (by omega) (by rw [h.1]; omega)
  rwa [Int.toNat_natCast] at e
theorem rng_zeros (n : Nat) (lo : Int) : (rng lo n).map (fun _ => (0 : Int)) = List.replicate n 0 := by
  induction n generalizing lo with
  | zero => rfl
  | succ n ih => show 0 :: (rng (lo + 1) n).map _ = _; rw [ih]; rfl
theorem grd_no {c : Prop} [Decidable c] {α : Type} {m : R α} (h : ¬c) : grd c m = .out := by
  unfold grd
  exact if_neg h
theorem foldR_cnt {α σ : Type} {f : σ → α → R σ} (I : Nat → σ → Prop) : ∀ (xs : List α) (k : Nat) (s : σ), (∀ k' s x, k' < k + xs.length → I k' s → x ∈ xs → ∃ s', f s x = .ok s' ∧ I (k' + 1) s') → I k s → ∃ s', foldR f s xs = .ok s' ∧ I (k + xs.length) s'
  | [], k, s, _, hs => ⟨s, rfl, hs⟩
  | x :: xs, k, s, h, hs => by
    obtain ⟨s1, e, i1⟩ := h k s x (by simp) hs List.mem_cons_self
    obtain ⟨s2, e2, i2⟩ := foldR_cnt I xs (k + 1) s1 (fun k' s' y hk hi hy => h k' s' y (by simp only [List.length_cons]; omega) hi (List.mem_cons_of_mem _ hy)) i1
    exact ⟨s2, by show (f s x).bind _ = _; rw [e]; exact e2, by rw [List.length_cons]; rw [show k + (xs.length + 1) = k + 1 + xs.length by omega]; exact i2⟩
theorem foldR_times {σ : Type} {f : σ → Int → R σ} (I : Nat → σ → Prop) (n : Nat) (lo : Int) (s : σ) (h : ∀ k s x, k < n → I k s → ∃ s', f s x = .ok s' ∧ I (k + 1) s') (hs : I 0 s) : ∃ s', foldR f s (rng lo n) = .ok s' ∧ I n s' := by
  obtain ⟨s', e, i⟩ := foldR_cnt I (rng lo n) 0 s (fun k s x hk hi _ => h k s x (by rw [rng_length] at hk; omega) hi) hs
  rw [rng_length, Nat.zero_add] at i
  exact ⟨s', e, i⟩
def pad (l : List Int) (n : Nat) : List Int := l ++ List.replicate (n - l.length) 0

theorem trim_okB (l : List Int) (p : Int) (p0 : 0 < p) (h : l.length ≤ 900) : m__law_trim l p = .ok (tr p l) := by
  have e := fold_map (f := m__law_trim_b1 p) (g := (· % p)) l [] (fun s x hs _ => by
    unfold m__law_trim_b1
    rw [grd_ok p0, grd_ok (lenLt_small hs)]) (by show 0 + l.length ≤ 1000; omega)
  unfold m__law_trim
  rw [e, R.bind_ok, List.nil_append]
  unfold tr
  have hm : (l.map (· % p)).length ≤ 900 := by rw [List.length_map]; omega
  generalize l.map (· % p) = m at hm
  have step : ∀ s : List Int, s ≠ [] → s.getD (s.length - 1) 0 = 0 → m__law_trim_b2 s = .ok true := fun s z q => by
    have hl : 0 < s.length := List.length_pos_iff.mpr z
    unfold m__law_trim_b2 andR
    rw [decide_eq_true (show (0 : Int) < (s.length : Int) by omega), R.bind_ok, if_pos rfl, getL_int (by omega) (by omega), show ((s.length : Int) - 1).toNat = s.length - 1 by omega, q, R.bind_ok, R.bind_ok]
    rfl
  obtain ⟨s, e2, ⟨k, i1, i2, i3⟩, c⟩ := whileR_inv (c := m__law_trim_b2) (f := m__law_trim_b3) (fun s : List Int => ∃ k, k ≤ m.length ∧ s = m.take k ∧ ∀ i, k ≤ i → m.getD i 0 = 0) (fun s => s.length) (fun s hs => by
    obtain ⟨k, h1, h2, h3⟩ := hs
    have hk : s.length = k := by rw [h2, List.length_take]; omega
    by_cases z : s = []
    · right
      rw [z]
      rfl
    · have hl : 0 < s.length := List.length_pos_iff.mpr z
      by_cases q : s.getD (s.length - 1) 0 = 0
      · refine .inl ⟨step s z q, s.dropLast, ?_, ⟨k - 1, by omega, ?_, fun i hi => ?_⟩, ?_⟩
        · unfold m__law_trim_b3
          rw [popL_ok z, R.bind_ok]
        · rw [List.dropLast_eq_take, hk, h2, List.take_take, Nat.min_eq_left (by omega)]
        · by_cases e : i = k - 1
          · rw [e, ← getD_take (n := k) (by omega), ← h2, ← hk]
            exact q
          · exact h3 i (by omega)
        · rw [List.length_dropLast]
          omega
      · right
        unfold m__law_trim_b2 andR
        rw [decide_eq_true (show (0 : Int) < (s.length : Int) by omega), R.bind_ok, if_pos rfl, getL_int (by omega) (by omega), show ((s.length : Int) - 1).toNat = s.length - 1 by omega, R.bind_ok, decide_eq_false q, R.bind_ok]) 100000 m ⟨m.length, Nat.le_refl _, (List.take_length).symm, fun i hi => getD_ge hi⟩ (by show m.length < 100000; omega)
  rw [e2, R.bind_ok]
  have hk : s.length = k := by rw [i2, List.length_take]; omega
  have last : k = 0 ∨ m.getD (k - 1) 0 ≠ 0 := by
    by_cases z : k = 0
    · exact .inl z
    · right
      intro q
      have q' : s.getD (s.length - 1) 0 = 0 := by rw [hk, i2, getD_take (by omega)]; exact q
      rw [step s (by intro e; rw [e] at hk; exact z hk.symm) q'] at c
      exact absurd (R.ok.inj c) (by decide)
  rw [i2, tr0_char m k i1 i3 last]

section
open Lean.Grind
variable {K : Type} [CommRing K]
theorem C_mul_C (a b : K) : C a * C b = C (a * b) := PS.ext fun i => by
  rw [C_mul_c]
  show a * cst b i = cst (a * b) i
  unfold cst
  split
  · rfl
  · grind
theorem C_sh (a : K) (n : Nat) (f : PS K) : C a * sh n f = sh n (C a * f) := by
  rw [CommSemiring.mul_comm, sh_mul, CommSemiring.mul_comm]
theorem pl_set (l : List Int) (k : Nat) (w : Int) (h : k < l.length) : pl K (l.set k (l.getD k 0 + w)) = pl K l + sh k (C (ic K w)) := PS.ext fun i => by
  rw [add_c, pl_c, pl_c, sh_c, getD_set _ _ _ _ h]
  by_cases e : i = k
  · rw [if_pos e, e, if_neg (by omega), Nat.sub_self, ic_add]
    rfl
  · rw [if_neg e]
    by_cases e2 : i < k
    · rw [if_pos e2]
      grind
    · rw [if_neg e2]
      show _ = _ + cst (ic K w) (i - k)
      unfold cst
      rw [if_neg (by omega)]
      grind
theorem pl_step (n : Nat) (x y : Int) (bs : List Int) : sh n (C (ic K x) * pl K (y :: bs)) = sh n (C (ic K (x * y))) + sh (n + 1) (C (ic K x) * pl K bs) := by
  rw [plC, Semiring.left_distrib, C_mul_C, ic_mul, C_sh, sh_add, sh_sh]
theorem pl_outer (n : Nat) (x : Int) (as : List Int) (g : PS K) : sh n (pl K (x :: as) * g) = sh n (C (ic K x) * g) + sh (n + 1) (pl K as * g) := by
  rw [plC, Semiring.right_distrib, sh_mul 1, sh_add, sh_sh]
theorem pl_replicate (n : Nat) : pl K (List.replicate n 0) = 0 := PS.ext fun i => by
  rw [pl_c, zero_c, List.getD_eq_getElem?_getD, List.getElem?_replicate]
  split <;> exact ic_zero
theorem pl_pad (l : List Int) (n : Nat) : pl K (pad l n) = pl K l := PS.ext fun i => by
  rw [pl_c, pl_c]
  congr 1
  unfold pad
  rw [List.getD_eq_getElem?_getD, List.getD_eq_getElem?_getD]
  by_cases h : i < l.length
  · rw [List.getElem?_append_left h]
  · rw [List.getElem?_append_right (by omega), List.getElem?_replicate, List.getElem?_eq_none (by omega)]
    split <;> rfl
theorem pad_len (l : List Int) (n : Nat) (h : l.length ≤ n) : (pad l n).length = n := by
  unfold pad
  rw [List.length_append, List.length_replicate]
  omega
end

section
open Lean.Grind
theorem times_inB (K : Type) [CommRing K] (a b : List Int) (i0 : Nat) (hi : i0 < a.length) (hx : (a.getD i0 0).natAbs ≤ 1000) : ∀ (bs : List Int) (j0 : Nat) (P : List Int), (∀ k, k < bs.length → b.getD (j0 + k) 0 = bs.getD k 0) → j0 + bs.length ≤ b.length → i0 + j0 + bs.length ≤ P.length → ∃ P', foldR (m__law_times_b2 a b (i0 : Int)) P (rng (j0 : Int) bs.length) = .ok P' ∧ P'.length = P.length ∧ pl K P' = pl K P + sh (i0 + j0) (C (ic K (a.getD i0 0)) * pl K bs)
  | [], j0, P, _, _, _ => ⟨P, rfl, rfl, by
    rw [plN, show C (ic K (a.getD i0 0)) * (0 : PS K) = 0 by grind]
    exact PS.ext fun i => by rw [add_c, sh_c, zero_c]; split <;> grind⟩
  | y :: bs, j0, P, hb, hl, h => by
    have h' : i0 + j0 + (bs.length + 1) ≤ P.length := h
    have hl' : j0 + (bs.length + 1) ≤ b.length := hl
    have y0 : b.getD j0 0 = y := hb 0 (by show 0 < bs.length + 1; omega)
    have e : m__law_times_b2 a b (i0 : Int) P (j0 : Int) = .ok (P.set (i0 + j0) (P.getD (i0 + j0) 0 + a.getD i0 0 * y)) := by
      unfold m__law_times_b2
      rw [getL_int (l := P) (by omega) (by omega), R.bind_ok, getL_int (l := a) (by omega) (by omega), R.bind_ok, getL_int (l := b) (by omega) (by omega), R.bind_ok]
      rw [show ((i0 : Int) + (j0 : Int)).toNat = i0 + j0 by omega, show (i0 : Int).toNat = i0 by omega, show (j0 : Int).toNat = j0 by omega, y0, grd_ok (small_mul (by omega)), setL_int (by omega) (by omega), R.bind_ok, show ((i0 : Int) + (j0 : Int)).toNat = i0 + j0 by omega]
    obtain ⟨P', e1, e2, e3⟩ := times_inB K a b i0 hi hx bs (j0 + 1) (P.set (i0 + j0) (P.getD (i0 + j0) 0 + a.getD i0 0 * y)) (fun k hk => by
      have q := hb (k + 1) (by show k + 1 < bs.length + 1; omega)
      rw [show j0 + 1 + k = j0 + (k + 1) by omega, q]
      rfl) (by omega) (by rw [List.length_set]; omega)
    refine ⟨P', ?_, by rw [e2, List.length_set], ?_⟩
    · show (m__law_times_b2 a b (i0 : Int) P (j0 : Int)).bind _ = _
      rw [e, R.bind_ok]
      exact e1
    · rw [e3, pl_set _ _ _ (by omega), pl_step, ← Nat.add_assoc]
      grind
theorem times_outB (K : Type) [CommRing K] (a b : List Int) (hb : b.length ≤ 400) : ∀ (as : List Int) (i0 : Nat) (P : List Int), (∀ k, k < as.length → a.getD (i0 + k) 0 = as.getD k 0) → i0 + as.length ≤ a.length → (∀ x ∈ a, x.natAbs ≤ 1000) → i0 + as.length + b.length ≤ P.length → ∃ P', foldR (m__law_times_b3 a b) P (rng (i0 : Int) as.length) = .ok P' ∧ P'.length = P.length ∧ pl K P' = pl K P + sh i0 (pl K as * pl K b)
  | [], i0, P, _, _, _, _ => ⟨P, rfl, rfl, by
    rw [plN, show (0 : PS K) * pl K b = 0 by grind]
    exact PS.ext fun i => by rw [add_c, sh_c, zero_c]; split <;> grind⟩
  | x :: as, i0, P, ha, hl, hx, h => by
    have h' : i0 + (as.length + 1) + b.length ≤ P.length := h
    have hl' : i0 + (as.length + 1) ≤ a.length := hl
    have x0 : a.getD i0 0 = x := ha 0 (by show 0 < as.length + 1; omega)
    have xs : (a.getD i0 0).natAbs ≤ 1000 := by
      rw [List.getD_eq_getElem?_getD, List.getElem?_eq_getElem (show i0 < a.length by omega)]
      exact hx _ (List.getElem_mem _)
    obtain ⟨P1, f1, f2, f3⟩ := times_inB K a b i0 (by omega) xs b 0 P (fun k _ => by rw [Nat.zero_add]) (by omega) (by omega)
    have e : m__law_times_b3 a b P (i0 : Int) = .ok P1 := by
      unfold m__law_times_b3
      have f1' : foldR (m__law_times_b2 a b (i0 : Int)) P (rng 0 b.length) = .ok P1 := f1
      rw [grd_ok (show rgOk (b.length : Int) by unfold rgOk; omega), show ((b.length : Int)).toNat = b.length by omega, f1', R.bind_ok]
    obtain ⟨P', e1, e2, e3⟩ := times_outB K a b hb as (i0 + 1) P1 (fun k hk => by
      have q := ha (k + 1) (by show k + 1 < as.length + 1; omega)
      rw [show i0 + 1 + k = i0 + (k + 1) by omega, q]
      rfl) (by omega) hx (by omega)
    refine ⟨P', ?_, by omega, ?_⟩
    · show (m__law_times_b3 a b P (i0 : Int)).bind _ = _
      rw [e, R.bind_ok]
      exact e1
    · rw [e3, f3, x0, pl_outer, Nat.add_zero]
      grind
theorem rng_map (n : Nat) (lo : Int) : (rng lo n).map (fun _ => (0 : Int)) = List.replicate n 0 := by
  induction n generalizing lo with
  | zero => rfl
  | succ n ih => show 0 :: (rng (lo + 1) n).map _ = _; rw [ih]; rfl
theorem times_okB {K : Type} [CommRing K] {p : Int} (H : Ch K p) (a b : List Int) (ha : ∀ x ∈ a, x.natAbs ≤ 1000) (la : a.length ≤ 400) (lb : b.length ≤ 400) : ∃ l, m__law_times a b p = .ok l ∧ nrm p l ∧ pl K l = pl K a * pl K b ∧ l.length ≤ a.length + b.length := by
  have p0 : 0 < p := by have := H.pos; omega
  have hr : ((a.length : Int) + (b.length : Int)).toNat = a.length + b.length := by omega
  obtain ⟨P, e1, e2, e3⟩ := times_outB K a b lb a 0 (List.replicate (a.length + b.length) 0) (fun k _ => by rw [Nat.zero_add]) (by omega) ha (by rw [List.length_replicate]; omega)
  rw [List.length_replicate] at e2
  refine ⟨tr p P, ?_, tr_nrm p0 _, ?_, by rw [← e2]; exact tr_len p P⟩
  · unfold m__law_times
    rw [grd_ok (show rgOk ((a.length : Int) + (b.length : Int)) by unfold rgOk; omega), hr, fold_map (f := m__law_times_b1) (g := fun _ => 0) _ [] (fun s x hs _ => by unfold m__law_times_b1; rw [grd_ok (lenLt_small hs)]) (by rw [rng_length]; show 0 + _ ≤ 1000; omega), R.bind_ok, List.nil_append, rng_map, grd_ok (show rgOk (a.length : Int) by unfold rgOk; omega), show ((a.length : Int)).toNat = a.length by omega]
    have e1' : foldR (m__law_times_b3 a b) (List.replicate (a.length + b.length) 0) (rng 0 a.length) = .ok P := e1
    rw [e1', R.bind_ok, trim_okB _ _ p0 (by omega), R.bind_ok]
  · rw [tr_pl H, e3, pl_replicate, sh_zero]
    grind
end
theorem pl_setM {K : Type} [CommRing K] (l : List Int) (k : Nat) (w w' : Int) (h : k < l.length) (e : ic K w' = ic K (l.getD k 0) + ic K w) : pl K (l.set k w') = pl K l + sh k (C (ic K w)) := PS.ext fun i => by
  rw [add_c, pl_c, pl_c, sh_c, getD_set _ _ _ _ h]
  by_cases e1 : i = k
  · rw [if_pos e1, e1, if_neg (by omega), Nat.sub_self, e]
    rfl
  · rw [if_neg e1]
    by_cases e2 : i < k
    · rw [if_pos e2]
      grind
    · rw [if_neg e2]
      show _ = _ + cst (ic K w) (i - k)
      unfold cst
      rw [if_neg (by omega)]
      grind
theorem in_set {p v : Int} {P : List Int} {k : Nat} (h : ∀ x ∈ P, In p x) (hv : In p v) : ∀ x ∈ P.set k v, In p x := fun x hx => by
  rcases List.mem_or_eq_of_mem_set hx with q | q
  · exact h x q
  · rw [q]
    exact hv
theorem sh_zero' {K : Type} [CommRing K] (n : Nat) : sh n (0 : PS K) = 0 := PS.ext fun i => by
  rw [sh_c, zero_c, zero_c]
  split <;> rfl
theorem sh_sub {K : Type} [CommRing K] (n : Nat) (f g : PS K) : sh n (f - g) = sh n f - sh n g := PS.ext fun k => by
  rw [sub_c, sh_c, sh_c, sh_c]
  split
  · grind
  · rfl
theorem C_neg {K : Type} [CommRing K] (a : K) : C (-a) = -C a := PS.ext fun i => by
  show cst (-a) i = -cst a i
  unfold cst
  split <;> grind
theorem rest_inner {K : Type} [CommRing K] {p : Int} (H : Ch K p) (hp : p ≤ 1000) (S m : List Int) (q : Int) (hq : In p q) (hm : m.length ≤ S.length) : ∀ (bs : List Int) (j0 : Nat) (P : List Int), (∀ k, k < bs.length → m.getD (j0 + k) 0 = bs.getD k 0) → j0 + bs.length ≤ m.length → P.length = S.length → (∀ x ∈ P, In p x) → ∃ P', foldR (m__law_rest_b3 m p S q) P (rng (j0 : Int) bs.length) = .ok P' ∧ P'.length = P.length ∧ (∀ x ∈ P', In p x) ∧ pl K P' = pl K P - sh (S.length - m.length + j0) (C (ic K q) * pl K bs)
  | [], j0, P, _, _, _, hP => ⟨P, rfl, rfl, hP, by
    rw [plN, show C (ic K q) * (0 : PS K) = 0 by grind, sh_zero']
    grind⟩
  | y :: bs, j0, P, hb, hl, hPl, hP => by
    have p0 : 0 < p := by have := H.pos; omega
    have hl' : j0 + (bs.length + 1) ≤ m.length := hl
    have y0 : m.getD j0 0 = y := hb 0 (by show 0 < bs.length + 1; omega)
    have ix : ((S.length : Int) - (m.length : Int) + (j0 : Int)).toNat = S.length - m.length + j0 := by omega
    have hv : In p ((P.getD (S.length - m.length + j0) 0 - q * y) % p) := ⟨Int.emod_nonneg _ (by omega), Int.emod_lt_of_pos _ p0⟩
    have e : m__law_rest_b3 m p S q P (j0 : Int) = .ok (P.set (S.length - m.length + j0) ((P.getD (S.length - m.length + j0) 0 - q * y) % p)) := by
      unfold m__law_rest_b3
      rw [getL_int (l := P) (by omega) (by omega), R.bind_ok, getL_int (l := m) (by omega) (by omega), R.bind_ok, ix, show (j0 : Int).toNat = j0 by omega, y0, grd_ok (small_mul (by have := hq.1; have := hq.2; omega)), grd_ok p0, setL_int (by omega) (by omega), R.bind_ok, ix]
    obtain ⟨P', e1, e2, e4, e3⟩ := rest_inner H hp S m q hq hm bs (j0 + 1) (P.set (S.length - m.length + j0) ((P.getD (S.length - m.length + j0) 0 - q * y) % p)) (fun k hk => by
      have q := hb (k + 1) (by show k + 1 < bs.length + 1; omega)
      rw [show j0 + 1 + k = j0 + (k + 1) by omega, q]
      rfl) (by omega) (by rw [List.length_set]; exact hPl) (in_set hP hv)
    refine ⟨P', ?_, by rw [e2, List.length_set], e4, ?_⟩
    · show (m__law_rest_b3 m p S q P (j0 : Int)).bind _ = _
      rw [e, R.bind_ok]
      exact e1
    · rw [e3, pl_setM P (S.length - m.length + j0) (-(q * y)) _ (by omega) (by rw [H.mod, ic_sub, ic_neg]; grind), pl_step, ic_neg, C_neg, ← Nat.add_assoc]
      have z : sh (S.length - m.length + j0) (-C (ic K (q * y))) = -sh (S.length - m.length + j0) (C (ic K (q * y))) := by
        have := sh_sub (S.length - m.length + j0) 0 (C (ic K (q * y)))
        rw [sh_zero'] at this
        grind
      rw [z]
      grind
theorem pl_dropLast {K : Type} [CommRing K] (l : List Int) (h : l.getD (l.length - 1) 0 = 0) : pl K l.dropLast = pl K l := PS.ext fun i => by
  rw [pl_c, pl_c, List.dropLast_eq_take]
  by_cases z : i < l.length - 1
  · rw [getD_take z]
  · rw [getD_ge (by rw [List.length_take]; omega)]
    by_cases e : i = l.length - 1
    · rw [e, h]
    · rw [getD_ge (by omega)]
theorem rest_ok {K : Type} [CommRing K] {p : Int} (H : Ch K p) (hp : p ≤ 1000) (a m : List Int) (m0 : m ≠ []) (mono : m.getD (m.length - 1) 0 = 1) (la : a.length ≤ 400) (lm : m.length ≤ 400) :
    ∃ r, m__law_rest a m p = .ok r ∧ nrm p r ∧ r.length < m.length ∧ ∃ u, fin u ∧ pl K a = u * pl K m + pl K r := by
  have p0 : 0 < p := by have := H.pos; omega
  have lm0 : 0 < m.length := List.length_pos_iff.mpr m0
  have hM : ∀ x ∈ a.map (· % p), In p x := fun x hx => by
    obtain ⟨y, _, e⟩ := List.mem_map.mp hx
    rw [← e]
    exact ⟨Int.emod_nonneg _ (by omega), Int.emod_lt_of_pos _ p0⟩
  have plM : pl K (a.map (· % p)) = pl K a := PS.ext fun i => by rw [pl_c, pl_c, getD_map, H.mod]
  obtain ⟨s, e, ⟨i1, i2, u, i3, i4⟩, c⟩ := whileR_inv (c := m__law_rest_b2 m) (f := m__law_rest_b4 m p)
    (fun s : List Int => (∀ x ∈ s, In p x) ∧ s.length ≤ 400 ∧ ∃ u, fin u ∧ pl K a = u * pl K m + pl K s) (fun s => s.length) (fun s hs => by
    obtain ⟨h1, h2, u, h3, h4⟩ := hs
    by_cases z : m.length ≤ s.length
    · left
      have s0 : s ≠ [] := fun e => by rw [e] at z; exact absurd z (by show ¬ m.length ≤ 0; omega)
      have ix : s.length - 1 < s.length := by omega
      have hq : In p (s.getD (s.length - 1) 0) := by
        rw [List.getD_eq_getElem?_getD, List.getElem?_eq_getElem ix]
        exact h1 _ (List.getElem_mem _)
      obtain ⟨P, g1, g2, g3, g4⟩ := rest_inner H hp s m _ hq z m 0 s (fun k _ => by rw [Nat.zero_add]) (by omega) rfl h1
      rw [Nat.add_zero] at g4
      have P0 : P ≠ [] := fun e => by
        rw [e] at g2
        exact absurd g2 (by show ¬ 0 = s.length; omega)
      have top : P.getD (P.length - 1) 0 = 0 := by
        have hin : In p (P.getD (P.length - 1) 0) := by
          rw [List.getD_eq_getElem?_getD, List.getElem?_eq_getElem (show P.length - 1 < P.length by omega)]
          exact g3 _ (List.getElem_mem _)
        refine H.inj hin ⟨Int.le_refl _, p0⟩ ?_
        have z2 : (pl K P).c (P.length - 1) = 0 := by
          rw [g4, sub_c, sh_c, if_neg (by omega), C_mul_c, pl_c, pl_c, show P.length - 1 - (s.length - m.length) = m.length - 1 by omega, mono, ic_one, g2]
          grind
        rw [ic_zero]
        exact z2
      refine ⟨by unfold m__law_rest_b2; rw [decide_eq_true (show (m.length : Int) ≤ (s.length : Int) by omega)], P.dropLast, ?_, ⟨fun x hx => g3 x (List.mem_of_mem_take (by rw [List.dropLast_eq_take] at hx; exact hx)), by rw [List.length_dropLast]; omega, u + sh (s.length - m.length) (C (ic K (s.getD (s.length - 1) 0))), h3.add (fin_sh _ (fin_C _)), ?_⟩, by rw [List.length_dropLast]; omega⟩
      · unfold m__law_rest_b4
        have g1' : foldR (m__law_rest_b3 m p s (s.getD (s.length - 1) 0)) s (rng 0 m.length) = .ok P := g1
        rw [getL_int (l := s) (by omega) (by omega), R.bind_ok, show ((s.length : Int) - 1).toNat = s.length - 1 by omega, grd_ok (show rgOk (m.length : Int) by unfold rgOk; omega), show ((m.length : Int)).toNat = m.length by omega, g1', R.bind_ok, popL_ok P0, R.bind_ok]
      · rw [pl_dropLast P top, g4, h4, Semiring.right_distrib, sh_mul]
        grind
    · right
      unfold m__law_rest_b2
      rw [decide_eq_false (show ¬ (m.length : Int) ≤ (s.length : Int) by omega)]) 100000 (a.map (· % p)) ⟨hM, by rw [List.length_map]; exact la, 0, fin_zero, by rw [plM]; grind⟩ (by rw [List.length_map]; omega)
  have ls : s.length < m.length := by
    by_cases z : s.length < m.length
    · exact z
    · unfold m__law_rest_b2 at c
      rw [decide_eq_true (show (m.length : Int) ≤ (s.length : Int) by omega)] at c
      exact absurd (R.ok.inj c) (by decide)
  refine ⟨tr p s, ?_, tr_nrm p0 _, by have := tr_len p s; omega, u, i3, by rw [tr_pl H]; exact i4⟩
  unfold m__law_rest
  rw [fold_map (f := m__law_rest_b1 p) (g := (· % p)) a [] (fun s x hs _ => by unfold m__law_rest_b1; rw [grd_ok p0, grd_ok (lenLt_small hs)]) (by show 0 + a.length ≤ 1000; omega), R.bind_ok, List.nil_append, e, R.bind_ok, trim_okB _ _ p0 (by omega), R.bind_ok]


/-! ### family B: digits, members, products -/
theorem fill_okB (row : List Int) (n : Nat) (h : row.length ≤ n) (hn : n ≤ 900) : m__law_fill row (n : Int) = .ok (pad row n) := by
  unfold m__law_fill
  rw [grd_ok (show rgOk ((n : Int) - (row.length : Int)) by unfold rgOk; omega), show ((n : Int) - (row.length : Int)).toNat = n - row.length by omega, fold_map (f := m__law_fill_b1) (g := fun _ => 0) _ [] (fun s x hs _ => by unfold m__law_fill_b1; rw [grd_ok (lenLt_small hs)]) (by rw [rng_length]; show 0 + _ ≤ 1000; omega), R.bind_ok, List.nil_append, rng_zeros, grd_ok (lenOk_small (by rw [List.length_append, List.length_replicate]; omega))]
  rfl
theorem pad_memB {p : Int} {n : Nat} {r : List Int} (p0 : 0 < p) (hr : ∀ x ∈ r, In p x) (l : r.length ≤ n) : Mem p n (pad r n) := ⟨pad_len r n l, fun x hx => by
  unfold pad at hx
  rcases List.mem_append.mp hx with h | h
  · exact hr x h
  · rw [(List.mem_replicate.mp h).2]; exact ⟨Int.le_refl _, p0⟩⟩
theorem mem_small {f : Int × List Int} {n : Nat} (h : Fm f n) {a : List Int} (ha : Mem f.1 n a) : ∀ x ∈ a, x.natAbs ≤ 1000 := fun x hx => by
  have := ha.2 x hx
  have := h.p1
  have := (ha.2 x hx).1
  have := (ha.2 x hx).2
  omega
theorem rest_memB {K : Type} [CommRing K] {f : Int × List Int} {n : Nat} (h : Fm f n) (H : Ch K f.1) (l : List Int) (ll : l.length ≤ 400) :
    ∃ c u, ((m__law_rest l f.2 f.1).bind fun r => m__law_fill r (((f.2).length : Int) - (1 : Int))) = .ok c ∧ Mem f.1 n c ∧ fin u ∧ pl K l = u * pl K f.2 + pl K c := by
  have n1 := h.n1
  have p1 := h.p1
  have ln := h.len
  obtain ⟨r, g1, g2, g3, u, g4, g5⟩ := rest_ok H (by omega) l f.2 (fun e => by rw [e] at ln; simp at ln) (by rw [ln]; exact h.top) ll (by omega)
  refine ⟨pad r n, u, ?_, pad_memB (by have := h.p0; omega) g2.1 (by omega), g4, by rw [pl_pad]; exact g5⟩
  rw [g1, R.bind_ok, h.m0, fill_okB r n (by omega) (by omega)]
theorem product_okB {K : Type} [CommRing K] {f : Int × List Int} {n : Nat} (h : Fm f n) (H : Ch K f.1) {a b : List Int} (ha : Mem f.1 n a) (hb : Mem f.1 n b) :
    ∃ c, m__law_product a b f = .ok c ∧ Mem f.1 n c ∧ cls K f.2 c = cls K f.2 a * cls K f.2 b := by
  have n1 := h.n1
  obtain ⟨l, e1, e2, e3, e4⟩ := times_okB H a b (mem_small h ha) (by rw [ha.1]; omega) (by rw [hb.1]; omega)
  obtain ⟨c, u, g1, g2, g3, g4⟩ := rest_memB (K := K) h H l (by rw [ha.1, hb.1] at e4; omega)
  refine ⟨c, ?_, g2, cls_mul g3 (by rw [← g4, e3])⟩
  unfold m__law_product
  rw [e1, R.bind_ok]
  cases er : m__law_rest l f.2 f.1 with
  | ok r => rw [er, R.bind_ok] at g1; rw [R.bind_ok, g1]; rfl
  | er _ => rw [er] at g1; cases g1
  | out => rw [er] at g1; cases g1
end PM
set_option Elab.async false
set_option linter.all false
set_option maxRecDepth 100000
namespace PM
open PySem PySem.Spec PyProof.Rows L2 Mir
open Lean.Grind Pol
abbrev tmsB (f : Int × List Int) (a b : List Int) : R (List Int) := m__law_product a b f
theorem product_tB {K : Type} [CommRing K] {f : Int × List Int} {n : Nat} (h : Fm f n) (H : Ch K f.1) {a b : List Int} (ha : Mem f.1 n a) (hb : Mem f.1 n b) :
    ∃ c, tmsB f a b = .ok c ∧ Mem f.1 n c ∧ cls K f.2 c = cls K f.2 a * cls K f.2 b := product_okB h H ha hb
/-! ### the program's field: tables that are right -/
abbrev O7 := Int × (List Int) × Int × Int × (List (List Int)) × (List (List Int)) × (List ((List Int) × Int))
def toF (L : O7) (tx : List (PySem.Str × (List Int))) : O_Field := (L.1, L.2.1, L.2.2.1, L.2.2.2.1, L.2.2.2.2.1, L.2.2.2.2.2.1, L.2.2.2.2.2.2, tx)
def isL (L : O7) : Bool := match m_Field___init__ () L.1 L.2.1 with
  | .ok F => decide (F.1 = L.1) && (decide (F.2.1 = L.2.1) && (decide (F.2.2.1 = L.2.2.1) && (decide (F.2.2.2.1 = L.2.2.2.1) && (decide (F.2.2.2.2.1 = L.2.2.2.2.1) && (decide (F.2.2.2.2.2.1 = L.2.2.2.2.2.1) && decide (F.2.2.2.2.2.2.1 = L.2.2.2.2.2.2))))))
  | _ => false
theorem isL_ok {L : O7} (h : isL L = true) : ∃ tx, m_Field___init__ () L.1 L.2.1 = .ok (toF L tx) := by
  unfold isL at h
  cases e : m_Field___init__ () L.1 L.2.1 with
  | er x => rw [e] at h; cases h
  | out => rw [e] at h; cases h
  | ok F =>
    rw [e] at h
    simp only [Bool.and_eq_true, decide_eq_true_eq] at h
    obtain ⟨h1, h2, h3, h4, h5, h6, h7⟩ := h
    refine ⟨F.2.2.2.2.2.2.2, ?_⟩
    unfold toF
    rw [← h1, ← h2, ← h3, ← h4, ← h5, ← h6, ← h7]
def inB (p x : Int) : Bool := decide (0 ≤ x) && decide (x < p)
theorem inB_ok {p x : Int} (h : inB p x = true) : In p x := by
  unfold inB at h
  rw [Bool.and_eq_true, decide_eq_true_eq, decide_eq_true_eq] at h
  exact h
def memB (p : Int) (n : Nat) (a : List Int) : Bool := decide (a.length = n) && a.all (inB p)
theorem memB_ok {p : Int} {n : Nat} {a : List Int} (h : memB p n a = true) : Mem p n a := by
  unfold memB at h
  rw [Bool.and_eq_true, decide_eq_true_eq] at h
  exact ⟨h.1, fun x hx => inB_ok (List.all_eq_true.mp h.2 x hx)⟩
/-- the tables of a field: p, modulus, n, q, members, powers, logarithms -/
structure Fo (p : Int) (m : List Int) (n : Nat) (q : Int) (ms pw : List (List Int)) (lg : List ((List Int) × Int)) : Prop where
  fm : Fm (p, m) n
  qe : q = p ^ n
  mse : ms = (rng 0 (p ^ n).toNat).map (dg p n)
  len : (pw.length : Int) = q - 1
  mem : ∀ a ∈ pw, Mem p n a
  one : pw.getD 0 [] = dg p n 1
  step : ∀ k, k < pw.length → tmsB (p, m) (pw.getD k []) (pw.getD (1 % pw.length) []) = .ok (pw.getD ((k + 1) % pw.length) [])
  log : ∀ k, k < pw.length → getM lg (pw.getD k []) = .ok (k : Int)
  cov : ∀ v : Int, 1 ≤ v → v < p ^ n → ∃ k, k < pw.length ∧ pw.getD k [] = dg p n v
def chkT (L : O7) (n : Nat) : Bool :=
  (decide (1 < L.1) && (decide (L.1 ≤ 100) && (decide (1 ≤ n) && (decide (n ≤ 6) && (decide (L.1 ^ n < 1073741824) && (decide (L.2.1.length = n + 1) && (decide (L.2.1.getD n 0 = 1) && L.2.1.all (inB L.1)))))))) &&
  (decide (L.2.2.2.1 = L.1 ^ n) && (decide (L.2.2.2.2.1 = (rng 0 (L.1 ^ n).toNat).map (dg L.1 n)) && (decide (((L.2.2.2.2.2.1.length : Nat) : Int) = L.2.2.2.1 - 1) && (L.2.2.2.2.2.1.all (memB L.1 n) && (decide (L.2.2.2.2.2.1.getD 0 [] = dg L.1 n 1) &&
  ((List.range L.2.2.2.2.2.1.length).all (fun k => decide (tmsB (L.1, L.2.1) (L.2.2.2.2.2.1.getD k []) (L.2.2.2.2.2.1.getD (1 % L.2.2.2.2.2.1.length) []) = .ok (L.2.2.2.2.2.1.getD ((k + 1) % L.2.2.2.2.2.1.length) [])) && decide (getM L.2.2.2.2.2.2 (L.2.2.2.2.2.1.getD k []) = .ok (k : Int))) &&
  (rng 1 (L.1 ^ n - 1).toNat).all fun v => L.2.2.2.2.2.1.any fun a => decide (a = dg L.1 n v)))))))
theorem chkT_ok {L : O7} {n : Nat} (h : chkT L n = true) : Fo L.1 L.2.1 n L.2.2.2.1 L.2.2.2.2.1 L.2.2.2.2.2.1 L.2.2.2.2.2.2 := by
  unfold chkT at h
  simp only [Bool.and_eq_true, decide_eq_true_eq] at h
  obtain ⟨⟨a1, a2, a3, a4, a5, a6, a7, a8⟩, b1, b2, b3, b4, b5, b6, b7⟩ := h
  refine ⟨⟨a1, a2, a3, a4, a5, a6, a7, fun x hx => inB_ok (List.all_eq_true.mp a8 x hx)⟩, b1, b2, b3, fun a ha => memB_ok (List.all_eq_true.mp b4 a ha), b5, fun k hk => ?_, fun k hk => ?_, fun v v0 v1 => ?_⟩
  · have e := List.all_eq_true.mp b6 k (List.mem_range.mpr hk)
    simp only [Bool.and_eq_true, decide_eq_true_eq] at e
    exact e.1
  · have e := List.all_eq_true.mp b6 k (List.mem_range.mpr hk)
    simp only [Bool.and_eq_true, decide_eq_true_eq] at e
    exact e.2
  · have e := List.all_eq_true.mp b7 v (mem_rng v0 (by omega))
    obtain ⟨a, ha, ea⟩ := List.any_eq_true.mp e
    rw [decide_eq_true_eq] at ea
    obtain ⟨k, hk, e2⟩ := List.mem_iff_getElem.mp ha
    refine ⟨k, hk, ?_⟩
    rw [List.getD_eq_getElem?_getD, List.getElem?_eq_getElem hk]
    exact e2.trans ea
section
variable {K : Type} [CommRing K] {p : Int} {m : List Int} {n : Nat} {q : Int} {ms pw : List (List Int)} {lg : List ((List Int) × Int)}
variable (K) in
def gam (m : List Int) (pw : List (List Int)) : Qr (pl K m) := cls K m (pw.getD (1 % pw.length) [])
theorem Fo.p0 (F : Fo p m n q ms pw lg) : 0 < p := by have := F.fm.p0; dsimp only at this; omega
theorem Fo.q2 (F : Fo p m n q ms pw lg) : 2 ≤ q := by
  have h := F.fm.p0
  have n0 := F.fm.n0
  dsimp only at h
  rw [F.qe, show n = n - 1 + 1 by omega, Int.pow_succ]
  have h2 : 0 < p ^ (n - 1) := Int.pow_pos (by omega)
  have h3 : 1 * 2 ≤ p ^ (n - 1) * p := Int.mul_le_mul (by omega) (by omega) (by decide) (by omega)
  omega
theorem Fo.len0 (F : Fo p m n q ms pw lg) : 0 < pw.length := by
  have := F.q2
  have := F.len
  omega
theorem Fo.at (F : Fo p m n q ms pw lg) {k : Nat} (hk : k < pw.length) : Mem p n (pw.getD k []) := by
  rw [List.getD_eq_getElem?_getD, List.getElem?_eq_getElem hk]
  exact F.mem _ (List.getElem_mem hk)
theorem Fo.times (F : Fo p m n q ms pw lg) (H : Ch K p) {k : Nat} (hk : k < pw.length) : cls K m (pw.getD ((k + 1) % pw.length) []) = cls K m (pw.getD k []) * gam K m pw := by
  obtain ⟨c, e, _, ec⟩ := product_tB F.fm H (F.at hk) (F.at (Nat.mod_lt 1 F.len0))
  rw [F.step k hk] at e
  cases e
  exact ec
end

end PM
set_option Elab.async false
set_option linter.all false
set_option maxRecDepth 100000
namespace PM
open PySem PySem.Spec PyProof.Rows L2 Mir
open Lean.Grind Pol
/-! ### what the program's field answers -/
structure FO (F : O_Field) (n : Nat) : Prop where
  t : Fo F.1 F.2.1 n F.2.2.2.1 F.2.2.2.2.1 F.2.2.2.2.2.1 F.2.2.2.2.2.2.1
  n : F.2.2.1 = n
section
variable {K : Type} [CommRing K] {F : O_Field} {n : Nat}
theorem FO.fm (h : FO F n) : Fm (F.1, F.2.1) n := h.t.fm
theorem FO.q1 (h : FO F n) : F.2.2.2.1 < 1073741824 := by rw [h.t.qe]; exact h.t.fm.q1
end
end PM
set_option Elab.async false
set_option linter.all false
set_option maxRecDepth 100000
namespace PM
open PySem PySem.Spec PyProof.Rows L2 Mir
open Lean.Grind Pol

/-! ### the fields that are drawn -/
def chkB (L : O7) : Bool := isL L && (chkT L L.2.2.1.toNat && decide (0 ≤ L.2.2.1 ∧ (L.1 = 2 ∨ L.1 = 3 ∨ L.1 = 5 ∨ L.1 = 7)))
def lB0 : O7 := (2, [0, 1], 1, 2, [[0], [1]], [[1]], [([1], 0)])
theorem okB0 : chkB lB0 = true := by kernel_rfl
def lB1 : O7 := (2, [1, 1], 1, 2, [[0], [1]], [[1]], [([1], 0)])
theorem okB1 : chkB lB1 = true := by kernel_rfl
def lB2 : O7 := (2, [1, 1, 1], 2, 4, [[0, 0], [1, 0], [0, 1], [1, 1]], [[1, 0], [0, 1], [1, 1]], [([1, 0], 0), ([0, 1], 1), ([1, 1], 2)])
theorem okB2 : chkB lB2 = true := by kernel_rfl
def lB3 : O7 := (2, [1, 1, 0, 1], 3, 8, [[0, 0, 0], [1, 0, 0], [0, 1, 0], [1, 1, 0], [0, 0, 1], [1, 0, 1], [0, 1, 1], [1, 1, 1]], [[1, 0, 0], [0, 1, 0], [0, 0, 1], [1, 1, 0], [0, 1, 1], [1, 1, 1], [1, 0, 1]], [([1, 0, 0], 0), ([0, 1, 0], 1), ([0, 0, 1], 2), ([1, 1, 0], 3), ([0, 1, 1], 4), ([1, 1, 1], 5), ([1, 0, 1], 6)])
theorem okB3 : chkB lB3 = true := by kernel_rfl
def lB4 : O7 := (2, [1, 0, 1, 1], 3, 8, [[0, 0, 0], [1, 0, 0], [0, 1, 0], [1, 1, 0], [0, 0, 1], [1, 0, 1], [0, 1, 1], [1, 1, 1]], [[1, 0, 0], [0, 1, 0], [0, 0, 1], [1, 0, 1], [1, 1, 1], [1, 1, 0], [0, 1, 1]], [([1, 0, 0], 0), ([0, 1, 0], 1), ([0, 0, 1], 2), ([1, 0, 1], 3), ([1, 1, 1], 4), ([1, 1, 0], 5), ([0, 1, 1], 6)])
theorem okB4 : chkB lB4 = true := by kernel_rfl
def lB5 : O7 := (2, [1, 1, 0, 0, 1], 4, 16, [[0, 0, 0, 0], [1, 0, 0, 0], [0, 1, 0, 0], [1, 1, 0, 0], [0, 0, 1, 0], [1, 0, 1, 0], [0, 1, 1, 0], [1, 1, 1, 0], [0, 0, 0, 1], [1, 0, 0, 1], [0, 1, 0, 1], [1, 1, 0, 1], [0, 0, 1, 1], [1, 0, 1, 1], [0, 1, 1, 1], [1, 1, 1, 1]], [[1, 0, 0, 0], [0, 1, 0, 0], [0, 0, 1, 0], [0, 0, 0, 1], [1, 1, 0, 0], [0, 1, 1, 0], [0, 0, 1, 1], [1, 1, 0, 1], [1, 0, 1, 0], [0, 1, 0, 1], [1, 1, 1, 0], [0, 1, 1, 1], [1, 1, 1, 1], [1, 0, 1, 1], [1, 0, 0, 1]], [([1, 0, 0, 0], 0), ([0, 1, 0, 0], 1), ([0, 0, 1, 0], 2), ([0, 0, 0, 1], 3), ([1, 1, 0, 0], 4), ([0, 1, 1, 0], 5), ([0, 0, 1, 1], 6), ([1, 1, 0, 1], 7), ([1, 0, 1, 0], 8), ([0, 1, 0, 1], 9), ([1, 1, 1, 0], 10), ([0, 1, 1, 1], 11), ([1, 1, 1, 1], 12), ([1, 0, 1, 1], 13), ([1, 0, 0, 1], 14)])
theorem okB5 : chkB lB5 = true := by kernel_rfl
def lB6 : O7 := (2, [1, 0, 0, 1, 1], 4, 16, [[0, 0, 0, 0], [1, 0, 0, 0], [0, 1, 0, 0], [1, 1, 0, 0], [0, 0, 1, 0], [1, 0, 1, 0], [0, 1, 1, 0], [1, 1, 1, 0], [0, 0, 0, 1], [1, 0, 0, 1], [0, 1, 0, 1], [1, 1, 0, 1], [0, 0, 1, 1], [1, 0, 1, 1], [0, 1, 1, 1], [1, 1, 1, 1]], [[1, 0, 0, 0], [0, 1, 0, 0], [0, 0, 1, 0], [0, 0, 0, 1], [1, 0, 0, 1], [1, 1, 0, 1], [1, 1, 1, 1], [1, 1, 1, 0], [0, 1, 1, 1], [1, 0, 1, 0], [0, 1, 0, 1], [1, 0, 1, 1], [1, 1, 0, 0], [0, 1, 1, 0], [0, 0, 1, 1]], [([1, 0, 0, 0], 0), ([0, 1, 0, 0], 1), ([0, 0, 1, 0], 2), ([0, 0, 0, 1], 3), ([1, 0, 0, 1], 4), ([1, 1, 0, 1], 5), ([1, 1, 1, 1], 6), ([1, 1, 1, 0], 7), ([0, 1, 1, 1], 8), ([1, 0, 1, 0], 9), ([0, 1, 0, 1], 10), ([1, 0, 1, 1], 11), ([1, 1, 0, 0], 12), ([0, 1, 1, 0], 13), ([0, 0, 1, 1], 14)])
theorem okB6 : chkB lB6 = true := by kernel_rfl
def lB7 : O7 := (2, [1, 1, 1, 1, 1], 4, 16, [[0, 0, 0, 0], [1, 0, 0, 0], [0, 1, 0, 0], [1, 1, 0, 0], [0, 0, 1, 0], [1, 0, 1, 0], [0, 1, 1, 0], [1, 1, 1, 0], [0, 0, 0, 1], [1, 0, 0, 1], [0, 1, 0, 1], [1, 1, 0, 1], [0, 0, 1, 1], [1, 0, 1, 1], [0, 1, 1, 1], [1, 1, 1, 1]], [[1, 0, 0, 0], [1, 1, 0, 0], [1, 0, 1, 0], [1, 1, 1, 1], [0, 1, 1, 1], [1, 0, 1, 1], [0, 0, 0, 1], [1, 1, 1, 0], [1, 0, 0, 1], [0, 0, 1, 0], [0, 0, 1, 1], [1, 1, 0, 1], [0, 1, 0, 0], [0, 1, 1, 0], [0, 1, 0, 1]], [([1, 0, 0, 0], 0), ([1, 1, 0, 0], 1), ([1, 0, 1, 0], 2), ([1, 1, 1, 1], 3), ([0, 1, 1, 1], 4), ([1, 0, 1, 1], 5), ([0, 0, 0, 1], 6), ([1, 1, 1, 0], 7), ([1, 0, 0, 1], 8), ([0, 0, 1, 0], 9), ([0, 0, 1, 1], 10), ([1, 1, 0, 1], 11), ([0, 1, 0, 0], 12), ([0, 1, 1, 0], 13), ([0, 1, 0, 1], 14)])
theorem okB7 : chkB lB7 = true := by kernel_rfl
def lB8 : O7 := (3, [0, 1], 1, 3, [[0], [1], [2]], [[1], [2]], [([1], 0), ([2], 1)])
theorem okB8 : chkB lB8 = true := by kernel_rfl
def lB9 : O7 := (3, [1, 1], 1, 3, [[0], [1], [2]], [[1], [2]], [([1], 0), ([2], 1)])
theorem okB9 : chkB lB9 = true := by kernel_rfl
def lB10 : O7 := (3, [2, 1], 1, 3, [[0], [1], [2]], [[1], [2]], [([1], 0), ([2], 1)])
theorem okB10 : chkB lB10 = true := by kernel_rfl
def lB11 : O7 := (3, [1, 0, 1], 2, 9, [[0, 0], [1, 0], [2, 0], [0, 1], [1, 1], [2, 1], [0, 2], [1, 2], [2, 2]], [[1, 0], [1, 1], [0, 2], [1, 2], [2, 0], [2, 2], [0, 1], [2, 1]], [([1, 0], 0), ([1, 1], 1), ([0, 2], 2), ([1, 2], 3), ([2, 0], 4), ([2, 2], 5), ([0, 1], 6), ([2, 1], 7)])
theorem okB11 : chkB lB11 = true := by kernel_rfl
def lB12 : O7 := (3, [2, 1, 1], 2, 9, [[0, 0], [1, 0], [2, 0], [0, 1], [1, 1], [2, 1], [0, 2], [1, 2], [2, 2]], [[1, 0], [0, 1], [1, 2], [2, 2], [2, 0], [0, 2], [2, 1], [1, 1]], [([1, 0], 0), ([0, 1], 1), ([1, 2], 2), ([2, 2], 3), ([2, 0], 4), ([0, 2], 5), ([2, 1], 6), ([1, 1], 7)])
theorem okB12 : chkB lB12 = true := by kernel_rfl
def lB13 : O7 := (3, [2, 2, 1], 2, 9, [[0, 0], [1, 0], [2, 0], [0, 1], [1, 1], [2, 1], [0, 2], [1, 2], [2, 2]], [[1, 0], [0, 1], [1, 1], [1, 2], [2, 0], [0, 2], [2, 2], [2, 1]], [([1, 0], 0), ([0, 1], 1), ([1, 1], 2), ([1, 2], 3), ([2, 0], 4), ([0, 2], 5), ([2, 2], 6), ([2, 1], 7)])
theorem okB13 : chkB lB13 = true := by kernel_rfl
def lB14 : O7 := (3, [1, 2, 0, 1], 3, 27, [[0, 0, 0], [1, 0, 0], [2, 0, 0], [0, 1, 0], [1, 1, 0], [2, 1, 0], [0, 2, 0], [1, 2, 0], [2, 2, 0], [0, 0, 1], [1, 0, 1], [2, 0, 1], [0, 1, 1], [1, 1, 1], [2, 1, 1], [0, 2, 1], [1, 2, 1], [2, 2, 1], [0, 0, 2], [1, 0, 2], [2, 0, 2], [0, 1, 2], [1, 1, 2], [2, 1, 2], [0, 2, 2], [1, 2, 2], [2, 2, 2]], [[1, 0, 0], [0, 1, 0], [0, 0, 1], [2, 1, 0], [0, 2, 1], [2, 1, 2], [1, 1, 1], [2, 2, 1], [2, 0, 2], [1, 1, 0], [0, 1, 1], [2, 1, 1], [2, 0, 1], [2, 0, 0], [0, 2, 0], [0, 0, 2], [1, 2, 0], [0, 1, 2], [1, 2, 1], [2, 2, 2], [1, 1, 2], [1, 0, 1], [2, 2, 0], [0, 2, 2], [1, 2, 2], [1, 0, 2]], [([1, 0, 0], 0), ([0, 1, 0], 1), ([0, 0, 1], 2), ([2, 1, 0], 3), ([0, 2, 1], 4), ([2, 1, 2], 5), ([1, 1, 1], 6), ([2, 2, 1], 7), ([2, 0, 2], 8), ([1, 1, 0], 9), ([0, 1, 1], 10), ([2, 1, 1], 11), ([2, 0, 1], 12), ([2, 0, 0], 13), ([0, 2, 0], 14), ([0, 0, 2], 15), ([1, 2, 0], 16), ([0, 1, 2], 17), ([1, 2, 1], 18), ([2, 2, 2], 19), ([1, 1, 2], 20), ([1, 0, 1], 21), ([2, 2, 0], 22), ([0, 2, 2], 23), ([1, 2, 2], 24), ([1, 0, 2], 25)])
theorem okB14 : chkB lB14 = true := by kernel_rfl
def lB15 : O7 := (3, [2, 2, 0, 1], 3, 27, [[0, 0, 0], [1, 0, 0], [2, 0, 0], [0, 1, 0], [1, 1, 0], [2, 1, 0], [0, 2, 0], [1, 2, 0], [2, 2, 0], [0, 0, 1], [1, 0, 1], [2, 0, 1], [0, 1, 1], [1, 1, 1], [2, 1, 1], [0, 2, 1], [1, 2, 1], [2, 2, 1], [0, 0, 2], [1, 0, 2], [2, 0, 2], [0, 1, 2], [1, 1, 2], [2, 1, 2], [0, 2, 2], [1, 2, 2], [2, 2, 2]], [[1, 0, 0], [0, 2, 0], [0, 0, 1], [2, 2, 0], [0, 1, 1], [2, 2, 2], [1, 2, 1], [2, 1, 1], [2, 0, 2], [1, 2, 0], [0, 2, 1], [2, 2, 1], [2, 0, 1], [2, 0, 0], [0, 1, 0], [0, 0, 2], [1, 1, 0], [0, 2, 2], [1, 1, 1], [2, 1, 2], [1, 2, 2], [1, 0, 1], [2, 1, 0], [0, 1, 2], [1, 1, 2], [1, 0, 2]], [([1, 0, 0], 0), ([0, 2, 0], 1), ([0, 0, 1], 2), ([2, 2, 0], 3), ([0, 1, 1], 4), ([2, 2, 2], 5), ([1, 2, 1], 6), ([2, 1, 1], 7), ([2, 0, 2], 8), ([1, 2, 0], 9), ([0, 2, 1], 10), ([2, 2, 1], 11), ([2, 0, 1], 12), ([2, 0, 0], 13), ([0, 1, 0], 14), ([0, 0, 2], 15), ([1, 1, 0], 16), ([0, 2, 2], 17), ([1, 1, 1], 18), ([2, 1, 2], 19), ([1, 2, 2], 20), ([1, 0, 1], 21), ([2, 1, 0], 22), ([0, 1, 2], 23), ([1, 1, 2], 24), ([1, 0, 2], 25)])
theorem okB15 : chkB lB15 = true := by kernel_rfl
def lB16 : O7 := (3, [2, 0, 1, 1], 3, 27, [[0, 0, 0], [1, 0, 0], [2, 0, 0], [0, 1, 0], [1, 1, 0], [2, 1, 0], [0, 2, 0], [1, 2, 0], [2, 2, 0], [0, 0, 1], [1, 0, 1], [2, 0, 1], [0, 1, 1], [1, 1, 1], [2, 1, 1], [0, 2, 1], [1, 2, 1], [2, 2, 1], [0, 0, 2], [1, 0, 2], [2, 0, 2], [0, 1, 2], [1, 1, 2], [2, 1, 2], [0, 2, 2], [1, 2, 2], [2, 2, 2]], [[1, 0, 0], [2, 1, 0], [1, 1, 1], [0, 0, 2], [2, 0, 2], [0, 2, 2], [2, 1, 1], [2, 1, 2], [0, 1, 0], [0, 2, 1], [1, 1, 0], [2, 0, 1], [2, 2, 1], [2, 0, 0], [1, 2, 0], [2, 2, 2], [0, 0, 1], [1, 0, 1], [0, 1, 1], [1, 2, 2], [1, 2, 1], [0, 2, 0], [0, 1, 2], [2, 2, 0], [1, 0, 2], [1, 1, 2]], [([1, 0, 0], 0), ([2, 1, 0], 1), ([1, 1, 1], 2), ([0, 0, 2], 3), ([2, 0, 2], 4), ([0, 2, 2], 5), ([2, 1, 1], 6), ([2, 1, 2], 7), ([0, 1, 0], 8), ([0, 2, 1], 9), ([1, 1, 0], 10), ([2, 0, 1], 11), ([2, 2, 1], 12), ([2, 0, 0], 13), ([1, 2, 0], 14), ([2, 2, 2], 15), ([0, 0, 1], 16), ([1, 0, 1], 17), ([0, 1, 1], 18), ([1, 2, 2], 19), ([1, 2, 1], 20), ([0, 2, 0], 21), ([0, 1, 2], 22), ([2, 2, 0], 23), ([1, 0, 2], 24), ([1, 1, 2], 25)])
theorem okB16 : chkB lB16 = true := by kernel_rfl
def lB17 : O7 := (3, [2, 1, 1, 1], 3, 27, [[0, 0, 0], [1, 0, 0], [2, 0, 0], [0, 1, 0], [1, 1, 0], [2, 1, 0], [0, 2, 0], [1, 2, 0], [2, 2, 0], [0, 0, 1], [1, 0, 1], [2, 0, 1], [0, 1, 1], [1, 1, 1], [2, 1, 1], [0, 2, 1], [1, 2, 1], [2, 2, 1], [0, 0, 2], [1, 0, 2], [2, 0, 2], [0, 1, 2], [1, 1, 2], [2, 1, 2], [0, 2, 2], [1, 2, 2], [2, 2, 2]], [[1, 0, 0], [1, 1, 0], [1, 2, 1], [2, 2, 2], [1, 2, 2], [0, 1, 2], [2, 2, 1], [0, 0, 2], [2, 1, 0], [2, 0, 1], [0, 1, 0], [0, 1, 1], [1, 0, 1], [2, 0, 0], [2, 2, 0], [2, 1, 2], [1, 1, 1], [2, 1, 1], [0, 2, 1], [1, 1, 2], [0, 0, 1], [1, 2, 0], [1, 0, 2], [0, 2, 0], [0, 2, 2], [2, 0, 2]], [([1, 0, 0], 0), ([1, 1, 0], 1), ([1, 2, 1], 2), ([2, 2, 2], 3), ([1, 2, 2], 4), ([0, 1, 2], 5), ([2, 2, 1], 6), ([0, 0, 2], 7), ([2, 1, 0], 8), ([2, 0, 1], 9), ([0, 1, 0], 10), ([0, 1, 1], 11), ([1, 0, 1], 12), ([2, 0, 0], 13), ([2, 2, 0], 14), ([2, 1, 2], 15), ([1, 1, 1], 16), ([2, 1, 1], 17), ([0, 2, 1], 18), ([1, 1, 2], 19), ([0, 0, 1], 20), ([1, 2, 0], 21), ([1, 0, 2], 22), ([0, 2, 0], 23), ([0, 2, 2], 24), ([2, 0, 2], 25)])
theorem okB17 : chkB lB17 = true := by kernel_rfl
def lB18 : O7 := (3, [1, 2, 1, 1], 3, 27, [[0, 0, 0], [1, 0, 0], [2, 0, 0], [0, 1, 0], [1, 1, 0], [2, 1, 0], [0, 2, 0], [1, 2, 0], [2, 2, 0], [0, 0, 1], [1, 0, 1], [2, 0, 1], [0, 1, 1], [1, 1, 1], [2, 1, 1], [0, 2, 1], [1, 2, 1], [2, 2, 1], [0, 0, 2], [1, 0, 2], [2, 0, 2], [0, 1, 2], [1, 1, 2], [2, 1, 2], [0, 2, 2], [1, 2, 2], [2, 2, 2]], [[1, 0, 0], [0, 1, 0], [0, 0, 1], [2, 1, 2], [1, 1, 2], [1, 0, 2], [1, 0, 1], [2, 2, 2], [1, 1, 0], [0, 1, 1], [2, 1, 0], [0, 2, 1], [2, 1, 1], [2, 0, 0], [0, 2, 0], [0, 0, 2], [1, 2, 1], [2, 2, 1], [2, 0, 1], [2, 0, 2], [1, 1, 1], [2, 2, 0], [0, 2, 2], [1, 2, 0], [0, 1, 2], [1, 2, 2]], [([1, 0, 0], 0), ([0, 1, 0], 1), ([0, 0, 1], 2), ([2, 1, 2], 3), ([1, 1, 2], 4), ([1, 0, 2], 5), ([1, 0, 1], 6), ([2, 2, 2], 7), ([1, 1, 0], 8), ([0, 1, 1], 9), ([2, 1, 0], 10), ([0, 2, 1], 11), ([2, 1, 1], 12), ([2, 0, 0], 13), ([0, 2, 0], 14), ([0, 0, 2], 15), ([1, 2, 1], 16), ([2, 2, 1], 17), ([2, 0, 1], 18), ([2, 0, 2], 19), ([1, 1, 1], 20), ([2, 2, 0], 21), ([0, 2, 2], 22), ([1, 2, 0], 23), ([0, 1, 2], 24), ([1, 2, 2], 25)])
theorem okB18 : chkB lB18 = true := by kernel_rfl
def lB19 : O7 := (3, [1, 0, 2, 1], 3, 27, [[0, 0, 0], [1, 0, 0], [2, 0, 0], [0, 1, 0], [1, 1, 0], [2, 1, 0], [0, 2, 0], [1, 2, 0], [2, 2, 0], [0, 0, 1], [1, 0, 1], [2, 0, 1], [0, 1, 1], [1, 1, 1], [2, 1, 1], [0, 2, 1], [1, 2, 1], [2, 2, 1], [0, 0, 2], [1, 0, 2], [2, 0, 2], [0, 1, 2], [1, 1, 2], [2, 1, 2], [0, 2, 2], [1, 2, 2], [2, 2, 2]], [[1, 0, 0], [0, 1, 0], [0, 0, 1], [2, 0, 1], [2, 2, 1], [2, 2, 0], [0, 2, 2], [1, 0, 1], [2, 1, 1], [2, 2, 2], [1, 2, 1], [2, 1, 0], [0, 2, 1], [2, 0, 0], [0, 2, 0], [0, 0, 2], [1, 0, 2], [1, 1, 2], [1, 1, 0], [0, 1, 1], [2, 0, 2], [1, 2, 2], [1, 1, 1], [2, 1, 2], [1, 2, 0], [0, 1, 2]], [([1, 0, 0], 0), ([0, 1, 0], 1), ([0, 0, 1], 2), ([2, 0, 1], 3), ([2, 2, 1], 4), ([2, 2, 0], 5), ([0, 2, 2], 6), ([1, 0, 1], 7), ([2, 1, 1], 8), ([2, 2, 2], 9), ([1, 2, 1], 10), ([2, 1, 0], 11), ([0, 2, 1], 12), ([2, 0, 0], 13), ([0, 2, 0], 14), ([0, 0, 2], 15), ([1, 0, 2], 16), ([1, 1, 2], 17), ([1, 1, 0], 18), ([0, 1, 1], 19), ([2, 0, 2], 20), ([1, 2, 2], 21), ([1, 1, 1], 22), ([2, 1, 2], 23), ([1, 2, 0], 24), ([0, 1, 2], 25)])
theorem okB19 : chkB lB19 = true := by kernel_rfl
def lB20 : O7 := (3, [1, 1, 2, 1], 3, 27, [[0, 0, 0], [1, 0, 0], [2, 0, 0], [0, 1, 0], [1, 1, 0], [2, 1, 0], [0, 2, 0], [1, 2, 0], [2, 2, 0], [0, 0, 1], [1, 0, 1], [2, 0, 1], [0, 1, 1], [1, 1, 1], [2, 1, 1], [0, 2, 1], [1, 2, 1], [2, 2, 1], [0, 0, 2], [1, 0, 2], [2, 0, 2], [0, 1, 2], [1, 1, 2], [2, 1, 2], [0, 2, 2], [1, 2, 2], [2, 2, 2]], [[1, 0, 0], [0, 1, 0], [0, 0, 1], [2, 2, 1], [2, 1, 0], [0, 2, 1], [2, 2, 0], [0, 2, 2], [1, 1, 1], [2, 0, 2], [1, 0, 2], [1, 2, 2], [1, 2, 1], [2, 0, 0], [0, 2, 0], [0, 0, 2], [1, 1, 2], [1, 2, 0], [0, 1, 2], [1, 1, 0], [0, 1, 1], [2, 2, 2], [1, 0, 1], [2, 0, 1], [2, 1, 1], [2, 1, 2]], [([1, 0, 0], 0), ([0, 1, 0], 1), ([0, 0, 1], 2), ([2, 2, 1], 3), ([2, 1, 0], 4), ([0, 2, 1], 5), ([2, 2, 0], 6), ([0, 2, 2], 7), ([1, 1, 1], 8), ([2, 0, 2], 9), ([1, 0, 2], 10), ([1, 2, 2], 11), ([1, 2, 1], 12), ([2, 0, 0], 13), ([0, 2, 0], 14), ([0, 0, 2], 15), ([1, 1, 2], 16), ([1, 2, 0], 17), ([0, 1, 2], 18), ([1, 1, 0], 19), ([0, 1, 1], 20), ([2, 2, 2], 21), ([1, 0, 1], 22), ([2, 0, 1], 23), ([2, 1, 1], 24), ([2, 1, 2], 25)])
theorem okB20 : chkB lB20 = true := by kernel_rfl
def lB21 : O7 := (3, [2, 2, 2, 1], 3, 27, [[0, 0, 0], [1, 0, 0], [2, 0, 0], [0, 1, 0], [1, 1, 0], [2, 1, 0], [0, 2, 0], [1, 2, 0], [2, 2, 0], [0, 0, 1], [1, 0, 1], [2, 0, 1], [0, 1, 1], [1, 1, 1], [2, 1, 1], [0, 2, 1], [1, 2, 1], [2, 2, 1], [0, 0, 2], [1, 0, 2], [2, 0, 2], [0, 1, 2], [1, 1, 2], [2, 1, 2], [0, 2, 2], [1, 2, 2], [2, 2, 2]], [[1, 0, 0], [1, 1, 0], [1, 2, 1], [2, 1, 1], [0, 1, 0], [0, 1, 1], [1, 2, 0], [1, 0, 2], [0, 0, 1], [1, 1, 2], [0, 1, 2], [2, 0, 2], [1, 1, 1], [2, 0, 0], [2, 2, 0], [2, 1, 2], [1, 2, 2], [0, 2, 0], [0, 2, 2], [2, 1, 0], [2, 0, 1], [0, 0, 2], [2, 2, 1], [0, 2, 1], [1, 0, 1], [2, 2, 2]], [([1, 0, 0], 0), ([1, 1, 0], 1), ([1, 2, 1], 2), ([2, 1, 1], 3), ([0, 1, 0], 4), ([0, 1, 1], 5), ([1, 2, 0], 6), ([1, 0, 2], 7), ([0, 0, 1], 8), ([1, 1, 2], 9), ([0, 1, 2], 10), ([2, 0, 2], 11), ([1, 1, 1], 12), ([2, 0, 0], 13), ([2, 2, 0], 14), ([2, 1, 2], 15), ([1, 2, 2], 16), ([0, 2, 0], 17), ([0, 2, 2], 18), ([2, 1, 0], 19), ([2, 0, 1], 20), ([0, 0, 2], 21), ([2, 2, 1], 22), ([0, 2, 1], 23), ([1, 0, 1], 24), ([2, 2, 2], 25)])
theorem okB21 : chkB lB21 = true := by kernel_rfl
def lB22 : O7 := (5, [0, 1], 1, 5, [[0], [1], [2], [3], [4]], [[1], [2], [4], [3]], [([1], 0), ([2], 1), ([4], 2), ([3], 3)])
theorem okB22 : chkB lB22 = true := by kernel_rfl
def lB23 : O7 := (5, [1, 1], 1, 5, [[0], [1], [2], [3], [4]], [[1], [2], [4], [3]], [([1], 0), ([2], 1), ([4], 2), ([3], 3)])
theorem okB23 : chkB lB23 = true := by kernel_rfl
def lB24 : O7 := (5, [2, 1], 1, 5, [[0], [1], [2], [3], [4]], [[1], [2], [4], [3]], [([1], 0), ([2], 1), ([4], 2), ([3], 3)])
theorem okB24 : chkB lB24 = true := by kernel_rfl
def lB25 : O7 := (5, [3, 1], 1, 5, [[0], [1], [2], [3], [4]], [[1], [2], [4], [3]], [([1], 0), ([2], 1), ([4], 2), ([3], 3)])
theorem okB25 : chkB lB25 = true := by kernel_rfl
def lB26 : O7 := (5, [4, 1], 1, 5, [[0], [1], [2], [3], [4]], [[1], [2], [4], [3]], [([1], 0), ([2], 1), ([4], 2), ([3], 3)])
theorem okB26 : chkB lB26 = true := by kernel_rfl
def lB27 : O7 := (5, [2, 0, 1], 2, 25, [[0, 0], [1, 0], [2, 0], [3, 0], [4, 0], [0, 1], [1, 1], [2, 1], [3, 1], [4, 1], [0, 2], [1, 2], [2, 2], [3, 2], [4, 2], [0, 3], [1, 3], [2, 3], [3, 3], [4, 3], [0, 4], [1, 4], [2, 4], [3, 4], [4, 4]], [[1, 0], [1, 1], [4, 2], [0, 1], [3, 1], [1, 4], [3, 0], [3, 3], [2, 1], [0, 3], [4, 3], [3, 2], [4, 0], [4, 4], [1, 3], [0, 4], [2, 4], [4, 1], [2, 0], [2, 2], [3, 4], [0, 2], [1, 2], [2, 3]], [([1, 0], 0), ([1, 1], 1), ([4, 2], 2), ([0, 1], 3), ([3, 1], 4), ([1, 4], 5), ([3, 0], 6), ([3, 3], 7), ([2, 1], 8), ([0, 3], 9), ([4, 3], 10), ([3, 2], 11), ([4, 0], 12), ([4, 4], 13), ([1, 3], 14), ([0, 4], 15), ([2, 4], 16), ([4, 1], 17), ([2, 0], 18), ([2, 2], 19), ([3, 4], 20), ([0, 2], 21), ([1, 2], 22), ([2, 3], 23)])
theorem okB27 : chkB lB27 = true := by kernel_rfl
def lB28 : O7 := (5, [3, 0, 1], 2, 25, [[0, 0], [1, 0], [2, 0], [3, 0], [4, 0], [0, 1], [1, 1], [2, 1], [3, 1], [4, 1], [0, 2], [1, 2], [2, 2], [3, 2], [4, 2], [0, 3], [1, 3], [2, 3], [3, 3], [4, 3], [0, 4], [1, 4], [2, 4], [3, 4], [4, 4]], [[1, 0], [2, 1], [1, 4], [0, 4], [3, 3], [2, 4], [2, 0], [4, 2], [2, 3], [0, 3], [1, 1], [4, 3], [4, 0], [3, 4], [4, 1], [0, 1], [2, 2], [3, 1], [3, 0], [1, 3], [3, 2], [0, 2], [4, 4], [1, 2]], [([1, 0], 0), ([2, 1], 1), ([1, 4], 2), ([0, 4], 3), ([3, 3], 4), ([2, 4], 5), ([2, 0], 6), ([4, 2], 7), ([2, 3], 8), ([0, 3], 9), ([1, 1], 10), ([4, 3], 11), ([4, 0], 12), ([3, 4], 13), ([4, 1], 14), ([0, 1], 15), ([2, 2], 16), ([3, 1], 17), ([3, 0], 18), ([1, 3], 19), ([3, 2], 20), ([0, 2], 21), ([4, 4], 22), ([1, 2], 23)])
theorem okB28 : chkB lB28 = true := by kernel_rfl
def lB29 : O7 := (5, [1, 1, 1], 2, 25, [[0, 0], [1, 0], [2, 0], [3, 0], [4, 0], [0, 1], [1, 1], [2, 1], [3, 1], [4, 1], [0, 2], [1, 2], [2, 2], [3, 2], [4, 2], [0, 3], [1, 3], [2, 3], [3, 3], [4, 3], [0, 4], [1, 4], [2, 4], [3, 4], [4, 4]], [[1, 0], [2, 1], [3, 3], [3, 1], [0, 4], [1, 4], [3, 0], [1, 3], [4, 4], [4, 3], [0, 2], [3, 2], [4, 0], [3, 4], [2, 2], [2, 4], [0, 1], [4, 1], [2, 0], [4, 2], [1, 1], [1, 2], [0, 3], [2, 3]], [([1, 0], 0), ([2, 1], 1), ([3, 3], 2), ([3, 1], 3), ([0, 4], 4), ([1, 4], 5), ([3, 0], 6), ([1, 3], 7), ([4, 4], 8), ([4, 3], 9), ([0, 2], 10), ([3, 2], 11), ([4, 0], 12), ([3, 4], 13), ([2, 2], 14), ([2, 4], 15), ([0, 1], 16), ([4, 1], 17), ([2, 0], 18), ([4, 2], 19), ([1, 1], 20), ([1, 2], 21), ([0, 3], 22), ([2, 3], 23)])
theorem okB29 : chkB lB29 = true := by kernel_rfl
def lB30 : O7 := (5, [2, 1, 1], 2, 25, [[0, 0], [1, 0], [2, 0], [3, 0], [4, 0], [0, 1], [1, 1], [2, 1], [3, 1], [4, 1], [0, 2], [1, 2], [2, 2], [3, 2], [4, 2], [0, 3], [1, 3], [2, 3], [3, 3], [4, 3], [0, 4], [1, 4], [2, 4], [3, 4], [4, 4]], [[1, 0], [0, 1], [3, 4], [2, 4], [2, 3], [4, 4], [2, 0], [0, 2], [1, 3], [4, 3], [4, 1], [3, 3], [4, 0], [0, 4], [2, 1], [3, 1], [3, 2], [1, 1], [3, 0], [0, 3], [4, 2], [1, 2], [1, 4], [2, 2]], [([1, 0], 0), ([0, 1], 1), ([3, 4], 2), ([2, 4], 3), ([2, 3], 4), ([4, 4], 5), ([2, 0], 6), ([0, 2], 7), ([1, 3], 8), ([4, 3], 9), ([4, 1], 10), ([3, 3], 11), ([4, 0], 12), ([0, 4], 13), ([2, 1], 14), ([3, 1], 15), ([3, 2], 16), ([1, 1], 17), ([3, 0], 18), ([0, 3], 19), ([4, 2], 20), ([1, 2], 21), ([1, 4], 22), ([2, 2], 23)])
theorem okB30 : chkB lB30 = true := by kernel_rfl
def lB31 : O7 := (5, [3, 2, 1], 2, 25, [[0, 0], [1, 0], [2, 0], [3, 0], [4, 0], [0, 1], [1, 1], [2, 1], [3, 1], [4, 1], [0, 2], [1, 2], [2, 2], [3, 2], [4, 2], [0, 3], [1, 3], [2, 3], [3, 3], [4, 3], [0, 4], [1, 4], [2, 4], [3, 4], [4, 4]], [[1, 0], [0, 1], [2, 3], [1, 1], [2, 4], [3, 4], [3, 0], [0, 3], [1, 4], [3, 3], [1, 2], [4, 2], [4, 0], [0, 4], [3, 2], [4, 4], [3, 1], [2, 1], [2, 0], [0, 2], [4, 1], [2, 2], [4, 3], [1, 3]], [([1, 0], 0), ([0, 1], 1), ([2, 3], 2), ([1, 1], 3), ([2, 4], 4), ([3, 4], 5), ([3, 0], 6), ([0, 3], 7), ([1, 4], 8), ([3, 3], 9), ([1, 2], 10), ([4, 2], 11), ([4, 0], 12), ([0, 4], 13), ([3, 2], 14), ([4, 4], 15), ([3, 1], 16), ([2, 1], 17), ([2, 0], 18), ([0, 2], 19), ([4, 1], 20), ([2, 2], 21), ([4, 3], 22), ([1, 3], 23)])
theorem okB31 : chkB lB31 = true := by kernel_rfl
def lB32 : O7 := (5, [4, 2, 1], 2, 25, [[0, 0], [1, 0], [2, 0], [3, 0], [4, 0], [0, 1], [1, 1], [2, 1], [3, 1], [4, 1], [0, 2], [1, 2], [2, 2], [3, 2], [4, 2], [0, 3], [1, 3], [2, 3], [3, 3], [4, 3], [0, 4], [1, 4], [2, 4], [3, 4], [4, 4]], [[1, 0], [3, 1], [0, 4], [4, 4], [1, 3], [1, 4], [2, 0], [1, 2], [0, 3], [3, 3], [2, 1], [2, 3], [4, 0], [2, 4], [0, 1], [1, 1], [4, 2], [4, 1], [3, 0], [4, 3], [0, 2], [2, 2], [3, 4], [3, 2]], [([1, 0], 0), ([3, 1], 1), ([0, 4], 2), ([4, 4], 3), ([1, 3], 4), ([1, 4], 5), ([2, 0], 6), ([1, 2], 7), ([0, 3], 8), ([3, 3], 9), ([2, 1], 10), ([2, 3], 11), ([4, 0], 12), ([2, 4], 13), ([0, 1], 14), ([1, 1], 15), ([4, 2], 16), ([4, 1], 17), ([3, 0], 18), ([4, 3], 19), ([0, 2], 20), ([2, 2], 21), ([3, 4], 22), ([3, 2], 23)])
theorem okB32 : chkB lB32 = true := by kernel_rfl
def lB33 : O7 := (5, [3, 3, 1], 2, 25, [[0, 0], [1, 0], [2, 0], [3, 0], [4, 0], [0, 1], [1, 1], [2, 1], [3, 1], [4, 1], [0, 2], [1, 2], [2, 2], [3, 2], [4, 2], [0, 3], [1, 3], [2, 3], [3, 3], [4, 3], [0, 4], [1, 4], [2, 4], [3, 4], [4, 4]], [[1, 0], [0, 1], [2, 2], [4, 1], [2, 1], [2, 4], [3, 0], [0, 3], [1, 1], [2, 3], [1, 3], [1, 2], [4, 0], [0, 4], [3, 3], [1, 4], [3, 4], [3, 1], [2, 0], [0, 2], [4, 4], [3, 2], [4, 2], [4, 3]], [([1, 0], 0), ([0, 1], 1), ([2, 2], 2), ([4, 1], 3), ([2, 1], 4), ([2, 4], 5), ([3, 0], 6), ([0, 3], 7), ([1, 1], 8), ([2, 3], 9), ([1, 3], 10), ([1, 2], 11), ([4, 0], 12), ([0, 4], 13), ([3, 3], 14), ([1, 4], 15), ([3, 4], 16), ([3, 1], 17), ([2, 0], 18), ([0, 2], 19), ([4, 4], 20), ([3, 2], 21), ([4, 2], 22), ([4, 3], 23)])
theorem okB33 : chkB lB33 = true := by kernel_rfl
def lB34 : O7 := (5, [4, 3, 1], 2, 25, [[0, 0], [1, 0], [2, 0], [3, 0], [4, 0], [0, 1], [1, 1], [2, 1], [3, 1], [4, 1], [0, 2], [1, 2], [2, 2], [3, 2], [4, 2], [0, 3], [1, 3], [2, 3], [3, 3], [4, 3], [0, 4], [1, 4], [2, 4], [3, 4], [4, 4]], [[1, 0], [1, 1], [2, 4], [1, 4], [0, 3], [3, 4], [2, 0], [2, 2], [4, 3], [2, 3], [0, 1], [1, 3], [4, 0], [4, 4], [3, 1], [4, 1], [0, 2], [2, 1], [3, 0], [3, 3], [1, 2], [3, 2], [0, 4], [4, 2]], [([1, 0], 0), ([1, 1], 1), ([2, 4], 2), ([1, 4], 3), ([0, 3], 4), ([3, 4], 5), ([2, 0], 6), ([2, 2], 7), ([4, 3], 8), ([2, 3], 9), ([0, 1], 10), ([1, 3], 11), ([4, 0], 12), ([4, 4], 13), ([3, 1], 14), ([4, 1], 15), ([0, 2], 16), ([2, 1], 17), ([3, 0], 18), ([3, 3], 19), ([1, 2], 20), ([3, 2], 21), ([0, 4], 22), ([4, 2], 23)])
theorem okB34 : chkB lB34 = true := by kernel_rfl
def lB35 : O7 := (5, [1, 4, 1], 2, 25, [[0, 0], [1, 0], [2, 0], [3, 0], [4, 0], [0, 1], [1, 1], [2, 1], [3, 1], [4, 1], [0, 2], [1, 2], [2, 2], [3, 2], [4, 2], [0, 3], [1, 3], [2, 3], [3, 3], [4, 3], [0, 4], [1, 4], [2, 4], [3, 4], [4, 4]], [[1, 0], [1, 1], [0, 3], [2, 1], [1, 4], [2, 4], [3, 0], [3, 3], [0, 4], [1, 3], [3, 2], [1, 2], [4, 0], [4, 4], [0, 2], [3, 4], [4, 1], [3, 1], [2, 0], [2, 2], [0, 1], [4, 2], [2, 3], [4, 3]], [([1, 0], 0), ([1, 1], 1), ([0, 3], 2), ([2, 1], 3), ([1, 4], 4), ([2, 4], 5), ([3, 0], 6), ([3, 3], 7), ([0, 4], 8), ([1, 3], 9), ([3, 2], 10), ([1, 2], 11), ([4, 0], 12), ([4, 4], 13), ([0, 2], 14), ([3, 4], 15), ([4, 1], 16), ([3, 1], 17), ([2, 0], 18), ([2, 2], 19), ([0, 1], 20), ([4, 2], 21), ([2, 3], 22), ([4, 3], 23)])
theorem okB35 : chkB lB35 = true := by kernel_rfl
def lB36 : O7 := (5, [2, 4, 1], 2, 25, [[0, 0], [1, 0], [2, 0], [3, 0], [4, 0], [0, 1], [1, 1], [2, 1], [3, 1], [4, 1], [0, 2], [1, 2], [2, 2], [3, 2], [4, 2], [0, 3], [1, 3], [2, 3], [3, 3], [4, 3], [0, 4], [1, 4], [2, 4], [3, 4], [4, 4]], [[1, 0], [0, 1], [3, 1], [3, 4], [2, 2], [1, 4], [2, 0], [0, 2], [1, 2], [1, 3], [4, 4], [2, 3], [4, 0], [0, 4], [2, 4], [2, 1], [3, 3], [4, 1], [3, 0], [0, 3], [4, 3], [4, 2], [1, 1], [3, 2]], [([1, 0], 0), ([0, 1], 1), ([3, 1], 2), ([3, 4], 3), ([2, 2], 4), ([1, 4], 5), ([2, 0], 6), ([0, 2], 7), ([1, 2], 8), ([1, 3], 9), ([4, 4], 10), ([2, 3], 11), ([4, 0], 12), ([0, 4], 13), ([2, 4], 14), ([2, 1], 15), ([3, 3], 16), ([4, 1], 17), ([3, 0], 18), ([0, 3], 19), ([4, 3], 20), ([4, 2], 21), ([1, 1], 22), ([3, 2], 23)])
theorem okB36 : chkB lB36 = true := by kernel_rfl
def lB37 : O7 := (7, [0, 1], 1, 7, [[0], [1], [2], [3], [4], [5], [6]], [[1], [3], [2], [6], [4], [5]], [([1], 0), ([3], 1), ([2], 2), ([6], 3), ([4], 4), ([5], 5)])
theorem okB37 : chkB lB37 = true := by kernel_rfl
def lB38 : O7 := (7, [1, 1], 1, 7, [[0], [1], [2], [3], [4], [5], [6]], [[1], [3], [2], [6], [4], [5]], [([1], 0), ([3], 1), ([2], 2), ([6], 3), ([4], 4), ([5], 5)])
theorem okB38 : chkB lB38 = true := by kernel_rfl
def lB39 : O7 := (7, [2, 1], 1, 7, [[0], [1], [2], [3], [4], [5], [6]], [[1], [3], [2], [6], [4], [5]], [([1], 0), ([3], 1), ([2], 2), ([6], 3), ([4], 4), ([5], 5)])
theorem okB39 : chkB lB39 = true := by kernel_rfl
def lB40 : O7 := (7, [3, 1], 1, 7, [[0], [1], [2], [3], [4], [5], [6]], [[1], [3], [2], [6], [4], [5]], [([1], 0), ([3], 1), ([2], 2), ([6], 3), ([4], 4), ([5], 5)])
theorem okB40 : chkB lB40 = true := by kernel_rfl
def lB41 : O7 := (7, [4, 1], 1, 7, [[0], [1], [2], [3], [4], [5], [6]], [[1], [3], [2], [6], [4], [5]], [([1], 0), ([3], 1), ([2], 2), ([6], 3), ([4], 4), ([5], 5)])
theorem okB41 : chkB lB41 = true := by kernel_rfl
def lB42 : O7 := (7, [5, 1], 1, 7, [[0], [1], [2], [3], [4], [5], [6]], [[1], [3], [2], [6], [4], [5]], [([1], 0), ([3], 1), ([2], 2), ([6], 3), ([4], 4), ([5], 5)])
theorem okB42 : chkB lB42 = true := by kernel_rfl
def lB43 : O7 := (7, [6, 1], 1, 7, [[0], [1], [2], [3], [4], [5], [6]], [[1], [3], [2], [6], [4], [5]], [([1], 0), ([3], 1), ([2], 2), ([6], 3), ([4], 4), ([5], 5)])
theorem okB43 : chkB lB43 = true := by kernel_rfl
def lB44 : O7 := (7, [1, 0, 1], 2, 49, [[0, 0], [1, 0], [2, 0], [3, 0], [4, 0], [5, 0], [6, 0], [0, 1], [1, 1], [2, 1], [3, 1], [4, 1], [5, 1], [6, 1], [0, 2], [1, 2], [2, 2], [3, 2], [4, 2], [5, 2], [6, 2], [0, 3], [1, 3], [2, 3], [3, 3], [4, 3], [5, 3], [6, 3], [0, 4], [1, 4], [2, 4], [3, 4], [4, 4], [5, 4], [6, 4], [0, 5], [1, 5], [2, 5], [3, 5], [4, 5], [5, 5], [6, 5], [0, 6], [1, 6], [2, 6], [3, 6], [4, 6], [5, 6], [6, 6]], [[1, 0], [2, 1], [3, 4], [2, 4], [0, 3], [4, 6], [2, 2], [2, 6], [5, 0], [3, 5], [1, 6], [3, 6], [0, 1], [6, 2], [3, 3], [3, 2], [4, 0], [1, 4], [5, 2], [1, 2], [0, 5], [2, 3], [1, 1], [1, 3], [6, 0], [5, 6], [4, 3], [5, 3], [0, 4], [3, 1], [5, 5], [5, 1], [2, 0], [4, 2], [6, 1], [4, 1], [0, 6], [1, 5], [4, 4], [4, 5], [3, 0], [6, 3], [2, 5], [6, 5], [0, 2], [5, 4], [6, 6], [6, 4]], [([1, 0], 0), ([2, 1], 1), ([3, 4], 2), ([2, 4], 3), ([0, 3], 4), ([4, 6], 5), ([2, 2], 6), ([2, 6], 7), ([5, 0], 8), ([3, 5], 9), ([1, 6], 10), ([3, 6], 11), ([0, 1], 12), ([6, 2], 13), ([3, 3], 14), ([3, 2], 15), ([4, 0], 16), ([1, 4], 17), ([5, 2], 18), ([1, 2], 19), ([0, 5], 20), ([2, 3], 21), ([1, 1], 22), ([1, 3], 23), ([6, 0], 24), ([5, 6], 25), ([4, 3], 26), ([5, 3], 27), ([0, 4], 28), ([3, 1], 29), ([5, 5], 30), ([5, 1], 31), ([2, 0], 32), ([4, 2], 33), ([6, 1], 34), ([4, 1], 35), ([0, 6], 36), ([1, 5], 37), ([4, 4], 38), ([4, 5], 39), ([3, 0], 40), ([6, 3], 41), ([2, 5], 42), ([6, 5], 43), ([0, 2], 44), ([5, 4], 45), ([6, 6], 46), ([6, 4], 47)])
theorem okB44 : chkB lB44 = true := by kernel_rfl
def lB45 : O7 := (7, [2, 0, 1], 2, 49, [[0, 0], [1, 0], [2, 0], [3, 0], [4, 0], [5, 0], [6, 0], [0, 1], [1, 1], [2, 1], [3, 1], [4, 1], [5, 1], [6, 1], [0, 2], [1, 2], [2, 2], [3, 2], [4, 2], [5, 2], [6, 2], [0, 3], [1, 3], [2, 3], [3, 3], [4, 3], [5, 3], [6, 3], [0, 4], [1, 4], [2, 4], [3, 4], [4, 4], [5, 4], [6, 4], [0, 5], [1, 5], [2, 5], [3, 5], [4, 5], [5, 5], [6, 5], [0, 6], [1, 6], [2, 6], [3, 6], [4, 6], [5, 6], [6, 6]], [[1, 0], [1, 1], [6, 2], [2, 1], [0, 3], [1, 3], [2, 4], [1, 6], [3, 0], [3, 3], [4, 6], [6, 3], [0, 2], [3, 2], [6, 5], [3, 4], [2, 0], [2, 2], [5, 4], [4, 2], [0, 6], [2, 6], [4, 1], [2, 5], [6, 0], [6, 6], [1, 5], [5, 6], [0, 4], [6, 4], [5, 3], [6, 1], [4, 0], [4, 4], [3, 1], [1, 4], [0, 5], [4, 5], [1, 2], [4, 3], [5, 0], [5, 5], [2, 3], [3, 5], [0, 1], [5, 1], [3, 6], [5, 2]], [([1, 0], 0), ([1, 1], 1), ([6, 2], 2), ([2, 1], 3), ([0, 3], 4), ([1, 3], 5), ([2, 4], 6), ([1, 6], 7), ([3, 0], 8), ([3, 3], 9), ([4, 6], 10), ([6, 3], 11), ([0, 2], 12), ([3, 2], 13), ([6, 5], 14), ([3, 4], 15), ([2, 0], 16), ([2, 2], 17), ([5, 4], 18), ([4, 2], 19), ([0, 6], 20), ([2, 6], 21), ([4, 1], 22), ([2, 5], 23), ([6, 0], 24), ([6, 6], 25), ([1, 5], 26), ([5, 6], 27), ([0, 4], 28), ([6, 4], 29), ([5, 3], 30), ([6, 1], 31), ([4, 0], 32), ([4, 4], 33), ([3, 1], 34), ([1, 4], 35), ([0, 5], 36), ([4, 5], 37), ([1, 2], 38), ([4, 3], 39), ([5, 0], 40), ([5, 5], 41), ([2, 3], 42), ([3, 5], 43), ([0, 1], 44), ([5, 1], 45), ([3, 6], 46), ([5, 2], 47)])
theorem okB45 : chkB lB45 = true := by kernel_rfl
def lB46 : O7 := (7, [4, 0, 1], 2, 49, [[0, 0], [1, 0], [2, 0], [3, 0], [4, 0], [5, 0], [6, 0], [0, 1], [1, 1], [2, 1], [3, 1], [4, 1], [5, 1], [6, 1], [0, 2], [1, 2], [2, 2], [3, 2], [4, 2], [5, 2], [6, 2], [0, 3], [1, 3], [2, 3], [3, 3], [4, 3], [5, 3], [6, 3], [0, 4], [1, 4], [2, 4], [3, 4], [4, 4], [5, 4], [6, 4], [0, 5], [1, 5], [2, 5], [3, 5], [4, 5], [5, 5], [6, 5], [0, 6], [1, 6], [2, 6], [3, 6], [4, 6], [5, 6], [6, 6]], [[1, 0], [1, 1], [4, 2], [3, 6], [0, 2], [6, 2], [5, 1], [1, 6], [5, 0], [5, 5], [6, 3], [1, 2], [0, 3], [2, 3], [4, 5], [5, 2], [4, 0], [4, 4], [2, 1], [5, 3], [0, 1], [3, 1], [6, 4], [4, 3], [6, 0], [6, 6], [3, 5], [4, 1], [0, 5], [1, 5], [2, 6], [6, 1], [2, 0], [2, 2], [1, 4], [6, 5], [0, 4], [5, 4], [3, 2], [2, 5], [3, 0], [3, 3], [5, 6], [2, 4], [0, 6], [4, 6], [1, 3], [3, 4]], [([1, 0], 0), ([1, 1], 1), ([4, 2], 2), ([3, 6], 3), ([0, 2], 4), ([6, 2], 5), ([5, 1], 6), ([1, 6], 7), ([5, 0], 8), ([5, 5], 9), ([6, 3], 10), ([1, 2], 11), ([0, 3], 12), ([2, 3], 13), ([4, 5], 14), ([5, 2], 15), ([4, 0], 16), ([4, 4], 17), ([2, 1], 18), ([5, 3], 19), ([0, 1], 20), ([3, 1], 21), ([6, 4], 22), ([4, 3], 23), ([6, 0], 24), ([6, 6], 25), ([3, 5], 26), ([4, 1], 27), ([0, 5], 28), ([1, 5], 29), ([2, 6], 30), ([6, 1], 31), ([2, 0], 32), ([2, 2], 33), ([1, 4], 34), ([6, 5], 35), ([0, 4], 36), ([5, 4], 37), ([3, 2], 38), ([2, 5], 39), ([3, 0], 40), ([3, 3], 41), ([5, 6], 42), ([2, 4], 43), ([0, 6], 44), ([4, 6], 45), ([1, 3], 46), ([3, 4], 47)])
theorem okB46 : chkB lB46 = true := by kernel_rfl
def lB47 : O7 := (7, [3, 1, 1], 2, 49, [[0, 0], [1, 0], [2, 0], [3, 0], [4, 0], [5, 0], [6, 0], [0, 1], [1, 1], [2, 1], [3, 1], [4, 1], [5, 1], [6, 1], [0, 2], [1, 2], [2, 2], [3, 2], [4, 2], [5, 2], [6, 2], [0, 3], [1, 3], [2, 3], [3, 3], [4, 3], [5, 3], [6, 3], [0, 4], [1, 4], [2, 4], [3, 4], [4, 4], [5, 4], [6, 4], [0, 5], [1, 5], [2, 5], [3, 5], [4, 5], [5, 5], [6, 5], [0, 6], [1, 6], [2, 6], [3, 6], [4, 6], [5, 6], [6, 6]], [[1, 0], [0, 1], [4, 6], [3, 5], [6, 5], [6, 1], [4, 5], [6, 6], [3, 0], [0, 3], [5, 4], [2, 1], [4, 1], [4, 3], [5, 1], [4, 4], [2, 0], [0, 2], [1, 5], [6, 3], [5, 3], [5, 2], [1, 3], [5, 5], [6, 0], [0, 6], [3, 1], [4, 2], [1, 2], [1, 6], [3, 2], [1, 1], [4, 0], [0, 4], [2, 3], [5, 6], [3, 6], [3, 4], [2, 6], [3, 3], [5, 0], [0, 5], [6, 2], [1, 4], [2, 4], [2, 5], [6, 4], [2, 2]], [([1, 0], 0), ([0, 1], 1), ([4, 6], 2), ([3, 5], 3), ([6, 5], 4), ([6, 1], 5), ([4, 5], 6), ([6, 6], 7), ([3, 0], 8), ([0, 3], 9), ([5, 4], 10), ([2, 1], 11), ([4, 1], 12), ([4, 3], 13), ([5, 1], 14), ([4, 4], 15), ([2, 0], 16), ([0, 2], 17), ([1, 5], 18), ([6, 3], 19), ([5, 3], 20), ([5, 2], 21), ([1, 3], 22), ([5, 5], 23), ([6, 0], 24), ([0, 6], 25), ([3, 1], 26), ([4, 2], 27), ([1, 2], 28), ([1, 6], 29), ([3, 2], 30), ([1, 1], 31), ([4, 0], 32), ([0, 4], 33), ([2, 3], 34), ([5, 6], 35), ([3, 6], 36), ([3, 4], 37), ([2, 6], 38), ([3, 3], 39), ([5, 0], 40), ([0, 5], 41), ([6, 2], 42), ([1, 4], 43), ([2, 4], 44), ([2, 5], 45), ([6, 4], 46), ([2, 2], 47)])
theorem okB47 : chkB lB47 = true := by kernel_rfl
def lB48 : O7 := (7, [4, 1, 1], 2, 49, [[0, 0], [1, 0], [2, 0], [3, 0], [4, 0], [5, 0], [6, 0], [0, 1], [1, 1], [2, 1], [3, 1], [4, 1], [5, 1], [6, 1], [0, 2], [1, 2], [2, 2], [3, 2], [4, 2], [5, 2], [6, 2], [0, 3], [1, 3], [2, 3], [3, 3], [4, 3], [5, 3], [6, 3], [0, 4], [1, 4], [2, 4], [3, 4], [4, 4], [5, 4], [6, 4], [0, 5], [1, 5], [2, 5], [3, 5], [4, 5], [5, 5], [6, 5], [0, 6], [1, 6], [2, 6], [3, 6], [4, 6], [5, 6], [6, 6]], [[1, 0], [3, 1], [5, 5], [2, 1], [2, 4], [4, 3], [0, 3], [2, 6], [3, 0], [2, 3], [1, 1], [6, 3], [6, 5], [5, 2], [0, 2], [6, 4], [2, 0], [6, 2], [3, 3], [4, 2], [4, 1], [1, 6], [0, 6], [4, 5], [6, 0], [4, 6], [2, 2], [5, 6], [5, 3], [3, 4], [0, 4], [5, 1], [4, 0], [5, 4], [6, 6], [1, 4], [1, 2], [2, 5], [0, 5], [1, 3], [5, 0], [1, 5], [4, 4], [3, 5], [3, 6], [6, 1], [0, 1], [3, 2]], [([1, 0], 0), ([3, 1], 1), ([5, 5], 2), ([2, 1], 3), ([2, 4], 4), ([4, 3], 5), ([0, 3], 6), ([2, 6], 7), ([3, 0], 8), ([2, 3], 9), ([1, 1], 10), ([6, 3], 11), ([6, 5], 12), ([5, 2], 13), ([0, 2], 14), ([6, 4], 15), ([2, 0], 16), ([6, 2], 17), ([3, 3], 18), ([4, 2], 19), ([4, 1], 20), ([1, 6], 21), ([0, 6], 22), ([4, 5], 23), ([6, 0], 24), ([4, 6], 25), ([2, 2], 26), ([5, 6], 27), ([5, 3], 28), ([3, 4], 29), ([0, 4], 30), ([5, 1], 31), ([4, 0], 32), ([5, 4], 33), ([6, 6], 34), ([1, 4], 35), ([1, 2], 36), ([2, 5], 37), ([0, 5], 38), ([1, 3], 39), ([5, 0], 40), ([1, 5], 41), ([4, 4], 42), ([3, 5], 43), ([3, 6], 44), ([6, 1], 45), ([0, 1], 46), ([3, 2], 47)])
theorem okB48 : chkB lB48 = true := by kernel_rfl
def lB49 : O7 := (7, [6, 1, 1], 2, 49, [[0, 0], [1, 0], [2, 0], [3, 0], [4, 0], [5, 0], [6, 0], [0, 1], [1, 1], [2, 1], [3, 1], [4, 1], [5, 1], [6, 1], [0, 2], [1, 2], [2, 2], [3, 2], [4, 2], [5, 2], [6, 2], [0, 3], [1, 3], [2, 3], [3, 3], [4, 3], [5, 3], [6, 3], [0, 4], [1, 4], [2, 4], [3, 4], [4, 4], [5, 4], [6, 4], [0, 5], [1, 5], [2, 5], [3, 5], [4, 5], [5, 5], [6, 5], [0, 6], [1, 6], [2, 6], [3, 6], [4, 6], [5, 6], [6, 6]], [[1, 0], [3, 1], [3, 5], [0, 6], [6, 5], [2, 2], [1, 6], [2, 6], [5, 0], [1, 5], [1, 4], [0, 2], [2, 4], [3, 3], [5, 2], [3, 2], [4, 0], [5, 4], [5, 6], [0, 3], [3, 6], [1, 1], [4, 3], [1, 3], [6, 0], [4, 6], [4, 2], [0, 1], [1, 2], [5, 5], [6, 1], [5, 1], [2, 0], [6, 2], [6, 3], [0, 5], [5, 3], [4, 4], [2, 5], [4, 5], [3, 0], [2, 3], [2, 1], [0, 4], [4, 1], [6, 6], [3, 4], [6, 4]], [([1, 0], 0), ([3, 1], 1), ([3, 5], 2), ([0, 6], 3), ([6, 5], 4), ([2, 2], 5), ([1, 6], 6), ([2, 6], 7), ([5, 0], 8), ([1, 5], 9), ([1, 4], 10), ([0, 2], 11), ([2, 4], 12), ([3, 3], 13), ([5, 2], 14), ([3, 2], 15), ([4, 0], 16), ([5, 4], 17), ([5, 6], 18), ([0, 3], 19), ([3, 6], 20), ([1, 1], 21), ([4, 3], 22), ([1, 3], 23), ([6, 0], 24), ([4, 6], 25), ([4, 2], 26), ([0, 1], 27), ([1, 2], 28), ([5, 5], 29), ([6, 1], 30), ([5, 1], 31), ([2, 0], 32), ([6, 2], 33), ([6, 3], 34), ([0, 5], 35), ([5, 3], 36), ([4, 4], 37), ([2, 5], 38), ([4, 5], 39), ([3, 0], 40), ([2, 3], 41), ([2, 1], 42), ([0, 4], 43), ([4, 1], 44), ([6, 6], 45), ([3, 4], 46), ([6, 4], 47)])
theorem okB49 : chkB lB49 = true := by kernel_rfl
def lB50 : O7 := (7, [2, 2, 1], 2, 49, [[0, 0], [1, 0], [2, 0], [3, 0], [4, 0], [5, 0], [6, 0], [0, 1], [1, 1], [2, 1], [3, 1], [4, 1], [5, 1], [6, 1], [0, 2], [1, 2], [2, 2], [3, 2], [4, 2], [5, 2], [6, 2], [0, 3], [1, 3], [2, 3], [3, 3], [4, 3], [5, 3], [6, 3], [0, 4], [1, 4], [2, 4], [3, 4], [4, 4], [5, 4], [6, 4], [0, 5], [1, 5], [2, 5], [3, 5], [4, 5], [5, 5], [6, 5], [0, 6], [1, 6], [2, 6], [3, 6], [4, 6], [5, 6], [6, 6]], [[1, 0], [3, 1], [0, 4], [6, 4], [3, 3], [3, 6], [4, 2], [1, 6], [5, 0], [1, 5], [0, 6], [2, 6], [1, 1], [1, 2], [6, 3], [5, 2], [4, 0], [5, 4], [0, 2], [3, 2], [5, 5], [5, 3], [2, 1], [4, 3], [6, 0], [4, 6], [0, 3], [1, 3], [4, 4], [4, 1], [3, 5], [6, 1], [2, 0], [6, 2], [0, 1], [5, 1], [6, 6], [6, 5], [1, 4], [2, 5], [3, 0], [2, 3], [0, 5], [4, 5], [2, 2], [2, 4], [5, 6], [3, 4]], [([1, 0], 0), ([3, 1], 1), ([0, 4], 2), ([6, 4], 3), ([3, 3], 4), ([3, 6], 5), ([4, 2], 6), ([1, 6], 7), ([5, 0], 8), ([1, 5], 9), ([0, 6], 10), ([2, 6], 11), ([1, 1], 12), ([1, 2], 13), ([6, 3], 14), ([5, 2], 15), ([4, 0], 16), ([5, 4], 17), ([0, 2], 18), ([3, 2], 19), ([5, 5], 20), ([5, 3], 21), ([2, 1], 22), ([4, 3], 23), ([6, 0], 24), ([4, 6], 25), ([0, 3], 26), ([1, 3], 27), ([4, 4], 28), ([4, 1], 29), ([3, 5], 30), ([6, 1], 31), ([2, 0], 32), ([6, 2], 33), ([0, 1], 34), ([5, 1], 35), ([6, 6], 36), ([6, 5], 37), ([1, 4], 38), ([2, 5], 39), ([3, 0], 40), ([2, 3], 41), ([0, 5], 42), ([4, 5], 43), ([2, 2], 44), ([2, 4], 45), ([5, 6], 46), ([3, 4], 47)])
theorem okB50 : chkB lB50 = true := by kernel_rfl
def lB51 : O7 := (7, [3, 2, 1], 2, 49, [[0, 0], [1, 0], [2, 0], [3, 0], [4, 0], [5, 0], [6, 0], [0, 1], [1, 1], [2, 1], [3, 1], [4, 1], [5, 1], [6, 1], [0, 2], [1, 2], [2, 2], [3, 2], [4, 2], [5, 2], [6, 2], [0, 3], [1, 3], [2, 3], [3, 3], [4, 3], [5, 3], [6, 3], [0, 4], [1, 4], [2, 4], [3, 4], [4, 4], [5, 4], [6, 4], [0, 5], [1, 5], [2, 5], [3, 5], [4, 5], [5, 5], [6, 5], [0, 6], [1, 6], [2, 6], [3, 6], [4, 6], [5, 6], [6, 6]], [[1, 0], [0, 1], [4, 5], [6, 1], [4, 4], [2, 3], [5, 3], [5, 6], [3, 0], [0, 3], [5, 1], [4, 3], [5, 5], [6, 2], [1, 2], [1, 4], [2, 0], [0, 2], [1, 3], [5, 2], [1, 1], [4, 6], [3, 6], [3, 5], [6, 0], [0, 6], [3, 2], [1, 6], [3, 3], [5, 4], [2, 4], [2, 1], [4, 0], [0, 4], [2, 6], [3, 4], [2, 2], [1, 5], [6, 5], [6, 3], [5, 0], [0, 5], [6, 4], [2, 5], [6, 6], [3, 1], [4, 1], [4, 2]], [([1, 0], 0), ([0, 1], 1), ([4, 5], 2), ([6, 1], 3), ([4, 4], 4), ([2, 3], 5), ([5, 3], 6), ([5, 6], 7), ([3, 0], 8), ([0, 3], 9), ([5, 1], 10), ([4, 3], 11), ([5, 5], 12), ([6, 2], 13), ([1, 2], 14), ([1, 4], 15), ([2, 0], 16), ([0, 2], 17), ([1, 3], 18), ([5, 2], 19), ([1, 1], 20), ([4, 6], 21), ([3, 6], 22), ([3, 5], 23), ([6, 0], 24), ([0, 6], 25), ([3, 2], 26), ([1, 6], 27), ([3, 3], 28), ([5, 4], 29), ([2, 4], 30), ([2, 1], 31), ([4, 0], 32), ([0, 4], 33), ([2, 6], 34), ([3, 4], 35), ([2, 2], 36), ([1, 5], 37), ([6, 5], 38), ([6, 3], 39), ([5, 0], 40), ([0, 5], 41), ([6, 4], 42), ([2, 5], 43), ([6, 6], 44), ([3, 1], 45), ([4, 1], 46), ([4, 2], 47)])
theorem okB51 : chkB lB51 = true := by kernel_rfl
def lB52 : O7 := (7, [5, 2, 1], 2, 49, [[0, 0], [1, 0], [2, 0], [3, 0], [4, 0], [5, 0], [6, 0], [0, 1], [1, 1], [2, 1], [3, 1], [4, 1], [5, 1], [6, 1], [0, 2], [1, 2], [2, 2], [3, 2], [4, 2], [5, 2], [6, 2], [0, 3], [1, 3], [2, 3], [3, 3], [4, 3], [5, 3], [6, 3], [0, 4], [1, 4], [2, 4], [3, 4], [4, 4], [5, 4], [6, 4], [0, 5], [1, 5], [2, 5], [3, 5], [4, 5], [5, 5], [6, 5], [0, 6], [1, 6], [2, 6], [3, 6], [4, 6], [5, 6], [6, 6]], [[1, 0], [0, 1], [2, 5], [3, 6], [5, 5], [3, 2], [4, 6], [5, 6], [5, 0], [0, 5], [3, 4], [1, 2], [4, 4], [1, 3], [6, 2], [4, 2], [4, 0], [0, 4], [1, 6], [5, 3], [6, 6], [5, 1], [2, 3], [6, 3], [6, 0], [0, 6], [5, 2], [4, 1], [2, 2], [4, 5], [3, 1], [2, 1], [2, 0], [0, 2], [4, 3], [6, 5], [3, 3], [6, 4], [1, 5], [3, 5], [3, 0], [0, 3], [6, 1], [2, 4], [1, 1], [2, 6], [5, 4], [1, 4]], [([1, 0], 0), ([0, 1], 1), ([2, 5], 2), ([3, 6], 3), ([5, 5], 4), ([3, 2], 5), ([4, 6], 6), ([5, 6], 7), ([5, 0], 8), ([0, 5], 9), ([3, 4], 10), ([1, 2], 11), ([4, 4], 12), ([1, 3], 13), ([6, 2], 14), ([4, 2], 15), ([4, 0], 16), ([0, 4], 17), ([1, 6], 18), ([5, 3], 19), ([6, 6], 20), ([5, 1], 21), ([2, 3], 22), ([6, 3], 23), ([6, 0], 24), ([0, 6], 25), ([5, 2], 26), ([4, 1], 27), ([2, 2], 28), ([4, 5], 29), ([3, 1], 30), ([2, 1], 31), ([2, 0], 32), ([0, 2], 33), ([4, 3], 34), ([6, 5], 35), ([3, 3], 36), ([6, 4], 37), ([1, 5], 38), ([3, 5], 39), ([3, 0], 40), ([0, 3], 41), ([6, 1], 42), ([2, 4], 43), ([1, 1], 44), ([2, 6], 45), ([5, 4], 46), ([1, 4], 47)])
theorem okB52 : chkB lB52 = true := by kernel_rfl
def lB53 : O7 := (7, [1, 3, 1], 2, 49, [[0, 0], [1, 0], [2, 0], [3, 0], [4, 0], [5, 0], [6, 0], [0, 1], [1, 1], [2, 1], [3, 1], [4, 1], [5, 1], [6, 1], [0, 2], [1, 2], [2, 2], [3, 2], [4, 2], [5, 2], [6, 2], [0, 3], [1, 3], [2, 3], [3, 3], [4, 3], [5, 3], [6, 3], [0, 4], [1, 4], [2, 4], [3, 4], [4, 4], [5, 4], [6, 4], [0, 5], [1, 5], [2, 5], [3, 5], [4, 5], [5, 5], [6, 5], [0, 6], [1, 6], [2, 6], [3, 6], [4, 6], [5, 6], [6, 6]], [[1, 0], [4, 1], [1, 5], [6, 6], [4, 5], [4, 2], [0, 6], [1, 6], [5, 0], [6, 5], [5, 4], [2, 2], [6, 4], [6, 3], [0, 2], [5, 2], [4, 0], [2, 4], [4, 6], [3, 3], [2, 6], [2, 1], [0, 3], [4, 3], [6, 0], [3, 6], [6, 2], [1, 1], [3, 2], [3, 5], [0, 1], [6, 1], [2, 0], [1, 2], [2, 3], [5, 5], [1, 3], [1, 4], [0, 5], [2, 5], [3, 0], [5, 3], [3, 1], [4, 4], [5, 1], [5, 6], [0, 4], [3, 4]], [([1, 0], 0), ([4, 1], 1), ([1, 5], 2), ([6, 6], 3), ([4, 5], 4), ([4, 2], 5), ([0, 6], 6), ([1, 6], 7), ([5, 0], 8), ([6, 5], 9), ([5, 4], 10), ([2, 2], 11), ([6, 4], 12), ([6, 3], 13), ([0, 2], 14), ([5, 2], 15), ([4, 0], 16), ([2, 4], 17), ([4, 6], 18), ([3, 3], 19), ([2, 6], 20), ([2, 1], 21), ([0, 3], 22), ([4, 3], 23), ([6, 0], 24), ([3, 6], 25), ([6, 2], 26), ([1, 1], 27), ([3, 2], 28), ([3, 5], 29), ([0, 1], 30), ([6, 1], 31), ([2, 0], 32), ([1, 2], 33), ([2, 3], 34), ([5, 5], 35), ([1, 3], 36), ([1, 4], 37), ([0, 5], 38), ([2, 5], 39), ([3, 0], 40), ([5, 3], 41), ([3, 1], 42), ([4, 4], 43), ([5, 1], 44), ([5, 6], 45), ([0, 4], 46), ([3, 4], 47)])
theorem okB53 : chkB lB53 = true := by kernel_rfl
def lB54 : O7 := (7, [5, 3, 1], 2, 49, [[0, 0], [1, 0], [2, 0], [3, 0], [4, 0], [5, 0], [6, 0], [0, 1], [1, 1], [2, 1], [3, 1], [4, 1], [5, 1], [6, 1], [0, 2], [1, 2], [2, 2], [3, 2], [4, 2], [5, 2], [6, 2], [0, 3], [1, 3], [2, 3], [3, 3], [4, 3], [5, 3], [6, 3], [0, 4], [1, 4], [2, 4], [3, 4], [4, 4], [5, 4], [6, 4], [0, 5], [1, 5], [2, 5], [3, 5], [4, 5], [5, 5], [6, 5], [0, 6], [1, 6], [2, 6], [3, 6], [4, 6], [5, 6], [6, 6]], [[1, 0], [0, 1], [2, 4], [1, 4], [1, 3], [6, 6], [5, 2], [4, 6], [5, 0], [0, 5], [3, 6], [5, 6], [5, 1], [2, 2], [4, 3], [6, 2], [4, 0], [0, 4], [1, 2], [4, 2], [4, 5], [3, 3], [6, 1], [2, 3], [6, 0], [0, 6], [5, 3], [6, 3], [6, 4], [1, 1], [2, 5], [3, 1], [2, 0], [0, 2], [4, 1], [2, 1], [2, 6], [5, 5], [3, 4], [1, 5], [3, 0], [0, 3], [6, 5], [3, 5], [3, 2], [4, 4], [1, 6], [5, 4]], [([1, 0], 0), ([0, 1], 1), ([2, 4], 2), ([1, 4], 3), ([1, 3], 4), ([6, 6], 5), ([5, 2], 6), ([4, 6], 7), ([5, 0], 8), ([0, 5], 9), ([3, 6], 10), ([5, 6], 11), ([5, 1], 12), ([2, 2], 13), ([4, 3], 14), ([6, 2], 15), ([4, 0], 16), ([0, 4], 17), ([1, 2], 18), ([4, 2], 19), ([4, 5], 20), ([3, 3], 21), ([6, 1], 22), ([2, 3], 23), ([6, 0], 24), ([0, 6], 25), ([5, 3], 26), ([6, 3], 27), ([6, 4], 28), ([1, 1], 29), ([2, 5], 30), ([3, 1], 31), ([2, 0], 32), ([0, 2], 33), ([4, 1], 34), ([2, 1], 35), ([2, 6], 36), ([5, 5], 37), ([3, 4], 38), ([1, 5], 39), ([3, 0], 40), ([0, 3], 41), ([6, 5], 42), ([3, 5], 43), ([3, 2], 44), ([4, 4], 45), ([1, 6], 46), ([5, 4], 47)])
theorem okB54 : chkB lB54 = true := by kernel_rfl
def lB55 : O7 := (7, [6, 3, 1], 2, 49, [[0, 0], [1, 0], [2, 0], [3, 0], [4, 0], [5, 0], [6, 0], [0, 1], [1, 1], [2, 1], [3, 1], [4, 1], [5, 1], [6, 1], [0, 2], [1, 2], [2, 2], [3, 2], [4, 2], [5, 2], [6, 2], [0, 3], [1, 3], [2, 3], [3, 3], [4, 3], [5, 3], [6, 3], [0, 4], [1, 4], [2, 4], [3, 4], [4, 4], [5, 4], [6, 4], [0, 5], [1, 5], [2, 5], [3, 5], [4, 5], [5, 5], [6, 5], [0, 6], [1, 6], [2, 6], [3, 6], [4, 6], [5, 6], [6, 6]], [[1, 0], [4, 1], [3, 5], [3, 1], [6, 4], [0, 3], [3, 3], [1, 6], [3, 0], [5, 3], [2, 1], [2, 3], [4, 5], [0, 2], [2, 2], [3, 4], [2, 0], [1, 2], [6, 3], [6, 2], [5, 1], [0, 6], [6, 6], [2, 5], [6, 0], [3, 6], [4, 2], [4, 6], [1, 3], [0, 4], [4, 4], [6, 1], [4, 0], [2, 4], [5, 6], [5, 4], [3, 2], [0, 5], [5, 5], [4, 3], [5, 0], [6, 5], [1, 4], [1, 5], [2, 6], [0, 1], [1, 1], [5, 2]], [([1, 0], 0), ([4, 1], 1), ([3, 5], 2), ([3, 1], 3), ([6, 4], 4), ([0, 3], 5), ([3, 3], 6), ([1, 6], 7), ([3, 0], 8), ([5, 3], 9), ([2, 1], 10), ([2, 3], 11), ([4, 5], 12), ([0, 2], 13), ([2, 2], 14), ([3, 4], 15), ([2, 0], 16), ([1, 2], 17), ([6, 3], 18), ([6, 2], 19), ([5, 1], 20), ([0, 6], 21), ([6, 6], 22), ([2, 5], 23), ([6, 0], 24), ([3, 6], 25), ([4, 2], 26), ([4, 6], 27), ([1, 3], 28), ([0, 4], 29), ([4, 4], 30), ([6, 1], 31), ([4, 0], 32), ([2, 4], 33), ([5, 6], 34), ([5, 4], 35), ([3, 2], 36), ([0, 5], 37), ([5, 5], 38), ([4, 3], 39), ([5, 0], 40), ([6, 5], 41), ([1, 4], 42), ([1, 5], 43), ([2, 6], 44), ([0, 1], 45), ([1, 1], 46), ([5, 2], 47)])
theorem okB55 : chkB lB55 = true := by kernel_rfl
def lB56 : O7 := (7, [1, 4, 1], 2, 49, [[0, 0], [1, 0], [2, 0], [3, 0], [4, 0], [5, 0], [6, 0], [0, 1], [1, 1], [2, 1], [3, 1], [4, 1], [5, 1], [6, 1], [0, 2], [1, 2], [2, 2], [3, 2], [4, 2], [5, 2], [6, 2], [0, 3], [1, 3], [2, 3], [3, 3], [4, 3], [5, 3], [6, 3], [0, 4], [1, 4], [2, 4], [3, 4], [4, 4], [5, 4], [6, 4], [0, 5], [1, 5], [2, 5], [3, 5], [4, 5], [5, 5], [6, 5], [0, 6], [1, 6], [2, 6], [3, 6], [4, 6], [5, 6], [6, 6]], [[1, 0], [1, 1], [0, 5], [2, 6], [3, 5], [5, 2], [3, 6], [4, 6], [5, 0], [5, 5], [0, 4], [3, 2], [1, 4], [4, 3], [1, 2], [6, 2], [4, 0], [4, 4], [0, 6], [1, 3], [5, 6], [6, 1], [5, 3], [2, 3], [6, 0], [6, 6], [0, 2], [5, 1], [4, 2], [2, 5], [4, 1], [3, 1], [2, 0], [2, 2], [0, 3], [4, 5], [6, 3], [3, 4], [6, 5], [1, 5], [3, 0], [3, 3], [0, 1], [6, 4], [2, 1], [1, 6], [2, 4], [5, 4]], [([1, 0], 0), ([1, 1], 1), ([0, 5], 2), ([2, 6], 3), ([3, 5], 4), ([5, 2], 5), ([3, 6], 6), ([4, 6], 7), ([5, 0], 8), ([5, 5], 9), ([0, 4], 10), ([3, 2], 11), ([1, 4], 12), ([4, 3], 13), ([1, 2], 14), ([6, 2], 15), ([4, 0], 16), ([4, 4], 17), ([0, 6], 18), ([1, 3], 19), ([5, 6], 20), ([6, 1], 21), ([5, 3], 22), ([2, 3], 23), ([6, 0], 24), ([6, 6], 25), ([0, 2], 26), ([5, 1], 27), ([4, 2], 28), ([2, 5], 29), ([4, 1], 30), ([3, 1], 31), ([2, 0], 32), ([2, 2], 33), ([0, 3], 34), ([4, 5], 35), ([6, 3], 36), ([3, 4], 37), ([6, 5], 38), ([1, 5], 39), ([3, 0], 40), ([3, 3], 41), ([0, 1], 42), ([6, 4], 43), ([2, 1], 44), ([1, 6], 45), ([2, 4], 46), ([5, 4], 47)])
theorem okB56 : chkB lB56 = true := by kernel_rfl
def lB57 : O7 := (7, [5, 4, 1], 2, 49, [[0, 0], [1, 0], [2, 0], [3, 0], [4, 0], [5, 0], [6, 0], [0, 1], [1, 1], [2, 1], [3, 1], [4, 1], [5, 1], [6, 1], [0, 2], [1, 2], [2, 2], [3, 2], [4, 2], [5, 2], [6, 2], [0, 3], [1, 3], [2, 3], [3, 3], [4, 3], [5, 3], [6, 3], [0, 4], [1, 4], [2, 4], [3, 4], [4, 4], [5, 4], [6, 4], [0, 5], [1, 5], [2, 5], [3, 5], [4, 5], [5, 5], [6, 5], [0, 6], [1, 6], [2, 6], [3, 6], [4, 6], [5, 6], [6, 6]], [[1, 0], [0, 1], [2, 3], [6, 4], [1, 4], [1, 6], [5, 5], [3, 6], [5, 0], [0, 5], [3, 1], [2, 6], [5, 6], [5, 2], [4, 4], [1, 2], [4, 0], [0, 4], [1, 5], [3, 2], [4, 2], [4, 3], [6, 6], [5, 3], [6, 0], [0, 6], [5, 4], [1, 3], [6, 3], [6, 1], [2, 2], [4, 1], [2, 0], [0, 2], [4, 6], [5, 1], [2, 1], [2, 5], [3, 3], [6, 5], [3, 0], [0, 3], [6, 2], [4, 5], [3, 5], [3, 4], [1, 1], [2, 4]], [([1, 0], 0), ([0, 1], 1), ([2, 3], 2), ([6, 4], 3), ([1, 4], 4), ([1, 6], 5), ([5, 5], 6), ([3, 6], 7), ([5, 0], 8), ([0, 5], 9), ([3, 1], 10), ([2, 6], 11), ([5, 6], 12), ([5, 2], 13), ([4, 4], 14), ([1, 2], 15), ([4, 0], 16), ([0, 4], 17), ([1, 5], 18), ([3, 2], 19), ([4, 2], 20), ([4, 3], 21), ([6, 6], 22), ([5, 3], 23), ([6, 0], 24), ([0, 6], 25), ([5, 4], 26), ([1, 3], 27), ([6, 3], 28), ([6, 1], 29), ([2, 2], 30), ([4, 1], 31), ([2, 0], 32), ([0, 2], 33), ([4, 6], 34), ([5, 1], 35), ([2, 1], 36), ([2, 5], 37), ([3, 3], 38), ([6, 5], 39), ([3, 0], 40), ([0, 3], 41), ([6, 2], 42), ([4, 5], 43), ([3, 5], 44), ([3, 4], 45), ([1, 1], 46), ([2, 4], 47)])
theorem okB57 : chkB lB57 = true := by kernel_rfl
def lB58 : O7 := (7, [6, 4, 1], 2, 49, [[0, 0], [1, 0], [2, 0], [3, 0], [4, 0], [5, 0], [6, 0], [0, 1], [1, 1], [2, 1], [3, 1], [4, 1], [5, 1], [6, 1], [0, 2], [1, 2], [2, 2], [3, 2], [4, 2], [5, 2], [6, 2], [0, 3], [1, 3], [2, 3], [3, 3], [4, 3], [5, 3], [6, 3], [0, 4], [1, 4], [2, 4], [3, 4], [4, 4], [5, 4], [6, 4], [0, 5], [1, 5], [2, 5], [3, 5], [4, 5], [5, 5], [6, 5], [0, 6], [1, 6], [2, 6], [3, 6], [4, 6], [5, 6], [6, 6]], [[1, 0], [1, 1], [2, 5], [0, 1], [1, 4], [5, 3], [1, 3], [4, 6], [3, 0], [3, 3], [6, 1], [0, 3], [3, 5], [1, 2], [3, 2], [5, 4], [2, 0], [2, 2], [4, 3], [0, 2], [2, 1], [3, 6], [2, 6], [1, 5], [6, 0], [6, 6], [5, 2], [0, 6], [6, 3], [2, 4], [6, 4], [3, 1], [4, 0], [4, 4], [1, 6], [0, 4], [4, 2], [6, 5], [4, 5], [2, 3], [5, 0], [5, 5], [3, 4], [0, 5], [5, 6], [4, 1], [5, 1], [6, 2]], [([1, 0], 0), ([1, 1], 1), ([2, 5], 2), ([0, 1], 3), ([1, 4], 4), ([5, 3], 5), ([1, 3], 6), ([4, 6], 7), ([3, 0], 8), ([3, 3], 9), ([6, 1], 10), ([0, 3], 11), ([3, 5], 12), ([1, 2], 13), ([3, 2], 14), ([5, 4], 15), ([2, 0], 16), ([2, 2], 17), ([4, 3], 18), ([0, 2], 19), ([2, 1], 20), ([3, 6], 21), ([2, 6], 22), ([1, 5], 23), ([6, 0], 24), ([6, 6], 25), ([5, 2], 26), ([0, 6], 27), ([6, 3], 28), ([2, 4], 29), ([6, 4], 30), ([3, 1], 31), ([4, 0], 32), ([4, 4], 33), ([1, 6], 34), ([0, 4], 35), ([4, 2], 36), ([6, 5], 37), ([4, 5], 38), ([2, 3], 39), ([5, 0], 40), ([5, 5], 41), ([3, 4], 42), ([0, 5], 43), ([5, 6], 44), ([4, 1], 45), ([5, 1], 46), ([6, 2], 47)])
theorem okB58 : chkB lB58 = true := by kernel_rfl
def lB59 : O7 := (7, [2, 5, 1], 2, 49, [[0, 0], [1, 0], [2, 0], [3, 0], [4, 0], [5, 0], [6, 0], [0, 1], [1, 1], [2, 1], [3, 1], [4, 1], [5, 1], [6, 1], [0, 2], [1, 2], [2, 2], [3, 2], [4, 2], [5, 2], [6, 2], [0, 3], [1, 3], [2, 3], [3, 3], [4, 3], [5, 3], [6, 3], [0, 4], [1, 4], [2, 4], [3, 4], [4, 4], [5, 4], [6, 4], [0, 5], [1, 5], [2, 5], [3, 5], [4, 5], [5, 5], [6, 5], [0, 6], [1, 6], [2, 6], [3, 6], [4, 6], [5, 6], [6, 6]], [[1, 0], [1, 1], [6, 4], [5, 4], [4, 3], [5, 6], [0, 2], [3, 6], [5, 0], [5, 5], [2, 6], [4, 6], [6, 1], [4, 2], [0, 3], [1, 2], [4, 0], [4, 4], [3, 2], [6, 2], [2, 5], [6, 3], [0, 1], [5, 3], [6, 0], [6, 6], [1, 3], [2, 3], [3, 4], [2, 1], [0, 5], [4, 1], [2, 0], [2, 2], [5, 1], [3, 1], [1, 6], [3, 5], [0, 4], [6, 5], [3, 0], [3, 3], [4, 5], [1, 5], [5, 2], [1, 4], [0, 6], [2, 4]], [([1, 0], 0), ([1, 1], 1), ([6, 4], 2), ([5, 4], 3), ([4, 3], 4), ([5, 6], 5), ([0, 2], 6), ([3, 6], 7), ([5, 0], 8), ([5, 5], 9), ([2, 6], 10), ([4, 6], 11), ([6, 1], 12), ([4, 2], 13), ([0, 3], 14), ([1, 2], 15), ([4, 0], 16), ([4, 4], 17), ([3, 2], 18), ([6, 2], 19), ([2, 5], 20), ([6, 3], 21), ([0, 1], 22), ([5, 3], 23), ([6, 0], 24), ([6, 6], 25), ([1, 3], 26), ([2, 3], 27), ([3, 4], 28), ([2, 1], 29), ([0, 5], 30), ([4, 1], 31), ([2, 0], 32), ([2, 2], 33), ([5, 1], 34), ([3, 1], 35), ([1, 6], 36), ([3, 5], 37), ([0, 4], 38), ([6, 5], 39), ([3, 0], 40), ([3, 3], 41), ([4, 5], 42), ([1, 5], 43), ([5, 2], 44), ([1, 4], 45), ([0, 6], 46), ([2, 4], 47)])
theorem okB59 : chkB lB59 = true := by kernel_rfl
def lB60 : O7 := (7, [3, 5, 1], 2, 49, [[0, 0], [1, 0], [2, 0], [3, 0], [4, 0], [5, 0], [6, 0], [0, 1], [1, 1], [2, 1], [3, 1], [4, 1], [5, 1], [6, 1], [0, 2], [1, 2], [2, 2], [3, 2], [4, 2], [5, 2], [6, 2], [0, 3], [1, 3], [2, 3], [3, 3], [4, 3], [5, 3], [6, 3], [0, 4], [1, 4], [2, 4], [3, 4], [4, 4], [5, 4], [6, 4], [0, 5], [1, 5], [2, 5], [3, 5], [4, 5], [5, 5], [6, 5], [0, 6], [1, 6], [2, 6], [3, 6], [4, 6], [5, 6], [6, 6]], [[1, 0], [0, 1], [4, 2], [1, 1], [4, 3], [5, 3], [5, 4], [2, 6], [3, 0], [0, 3], [5, 6], [3, 3], [5, 2], [1, 2], [1, 5], [6, 4], [2, 0], [0, 2], [1, 4], [2, 2], [1, 6], [3, 6], [3, 1], [4, 5], [6, 0], [0, 6], [3, 5], [6, 6], [3, 4], [2, 4], [2, 3], [5, 1], [4, 0], [0, 4], [2, 1], [4, 4], [2, 5], [6, 5], [6, 2], [1, 3], [5, 0], [0, 5], [6, 3], [5, 5], [6, 1], [4, 1], [4, 6], [3, 2]], [([1, 0], 0), ([0, 1], 1), ([4, 2], 2), ([1, 1], 3), ([4, 3], 4), ([5, 3], 5), ([5, 4], 6), ([2, 6], 7), ([3, 0], 8), ([0, 3], 9), ([5, 6], 10), ([3, 3], 11), ([5, 2], 12), ([1, 2], 13), ([1, 5], 14), ([6, 4], 15), ([2, 0], 16), ([0, 2], 17), ([1, 4], 18), ([2, 2], 19), ([1, 6], 20), ([3, 6], 21), ([3, 1], 22), ([4, 5], 23), ([6, 0], 24), ([0, 6], 25), ([3, 5], 26), ([6, 6], 27), ([3, 4], 28), ([2, 4], 29), ([2, 3], 30), ([5, 1], 31), ([4, 0], 32), ([0, 4], 33), ([2, 1], 34), ([4, 4], 35), ([2, 5], 36), ([6, 5], 37), ([6, 2], 38), ([1, 3], 39), ([5, 0], 40), ([0, 5], 41), ([6, 3], 42), ([5, 5], 43), ([6, 1], 44), ([4, 1], 45), ([4, 6], 46), ([3, 2], 47)])
theorem okB60 : chkB lB60 = true := by kernel_rfl
def lB61 : O7 := (7, [5, 5, 1], 2, 49, [[0, 0], [1, 0], [2, 0], [3, 0], [4, 0], [5, 0], [6, 0], [0, 1], [1, 1], [2, 1], [3, 1], [4, 1], [5, 1], [6, 1], [0, 2], [1, 2], [2, 2], [3, 2], [4, 2], [5, 2], [6, 2], [0, 3], [1, 3], [2, 3], [3, 3], [4, 3], [5, 3], [6, 3], [0, 4], [1, 4], [2, 4], [3, 4], [4, 4], [5, 4], [6, 4], [0, 5], [1, 5], [2, 5], [3, 5], [4, 5], [5, 5], [6, 5], [0, 6], [1, 6], [2, 6], [3, 6], [4, 6], [5, 6], [6, 6]], [[1, 0], [0, 1], [2, 2], [4, 6], [5, 2], [4, 2], [4, 1], [2, 6], [5, 0], [0, 5], [3, 3], [6, 2], [4, 3], [6, 3], [6, 5], [3, 2], [4, 0], [0, 4], [1, 1], [2, 3], [6, 1], [2, 1], [2, 4], [1, 3], [6, 0], [0, 6], [5, 5], [3, 1], [2, 5], [3, 5], [3, 6], [5, 1], [2, 0], [0, 2], [4, 4], [1, 5], [3, 4], [1, 4], [1, 2], [4, 5], [3, 0], [0, 3], [6, 6], [5, 4], [1, 6], [5, 6], [5, 3], [6, 4]], [([1, 0], 0), ([0, 1], 1), ([2, 2], 2), ([4, 6], 3), ([5, 2], 4), ([4, 2], 5), ([4, 1], 6), ([2, 6], 7), ([5, 0], 8), ([0, 5], 9), ([3, 3], 10), ([6, 2], 11), ([4, 3], 12), ([6, 3], 13), ([6, 5], 14), ([3, 2], 15), ([4, 0], 16), ([0, 4], 17), ([1, 1], 18), ([2, 3], 19), ([6, 1], 20), ([2, 1], 21), ([2, 4], 22), ([1, 3], 23), ([6, 0], 24), ([0, 6], 25), ([5, 5], 26), ([3, 1], 27), ([2, 5], 28), ([3, 5], 29), ([3, 6], 30), ([5, 1], 31), ([2, 0], 32), ([0, 2], 33), ([4, 4], 34), ([1, 5], 35), ([3, 4], 36), ([1, 4], 37), ([1, 2], 38), ([4, 5], 39), ([3, 0], 40), ([0, 3], 41), ([6, 6], 42), ([5, 4], 43), ([1, 6], 44), ([5, 6], 45), ([5, 3], 46), ([6, 4], 47)])
theorem okB61 : chkB lB61 = true := by kernel_rfl
def lB62 : O7 := (7, [3, 6, 1], 2, 49, [[0, 0], [1, 0], [2, 0], [3, 0], [4, 0], [5, 0], [6, 0], [0, 1], [1, 1], [2, 1], [3, 1], [4, 1], [5, 1], [6, 1], [0, 2], [1, 2], [2, 2], [3, 2], [4, 2], [5, 2], [6, 2], [0, 3], [1, 3], [2, 3], [3, 3], [4, 3], [5, 3], [6, 3], [0, 4], [1, 4], [2, 4], [3, 4], [4, 4], [5, 4], [6, 4], [0, 5], [1, 5], [2, 5], [3, 5], [4, 5], [5, 5], [6, 5], [0, 6], [1, 6], [2, 6], [3, 6], [4, 6], [5, 6], [6, 6]], [[1, 0], [0, 1], [4, 1], [4, 5], [6, 2], [1, 1], [4, 2], [1, 6], [3, 0], [0, 3], [5, 3], [5, 1], [4, 6], [3, 3], [5, 6], [3, 4], [2, 0], [0, 2], [1, 2], [1, 3], [5, 4], [2, 2], [1, 4], [2, 5], [6, 0], [0, 6], [3, 6], [3, 2], [1, 5], [6, 6], [3, 5], [6, 1], [4, 0], [0, 4], [2, 4], [2, 6], [3, 1], [4, 4], [2, 1], [4, 3], [5, 0], [0, 5], [6, 5], [6, 4], [2, 3], [5, 5], [6, 3], [5, 2]], [([1, 0], 0), ([0, 1], 1), ([4, 1], 2), ([4, 5], 3), ([6, 2], 4), ([1, 1], 5), ([4, 2], 6), ([1, 6], 7), ([3, 0], 8), ([0, 3], 9), ([5, 3], 10), ([5, 1], 11), ([4, 6], 12), ([3, 3], 13), ([5, 6], 14), ([3, 4], 15), ([2, 0], 16), ([0, 2], 17), ([1, 2], 18), ([1, 3], 19), ([5, 4], 20), ([2, 2], 21), ([1, 4], 22), ([2, 5], 23), ([6, 0], 24), ([0, 6], 25), ([3, 6], 26), ([3, 2], 27), ([1, 5], 28), ([6, 6], 29), ([3, 5], 30), ([6, 1], 31), ([4, 0], 32), ([0, 4], 33), ([2, 4], 34), ([2, 6], 35), ([3, 1], 36), ([4, 4], 37), ([2, 1], 38), ([4, 3], 39), ([5, 0], 40), ([0, 5], 41), ([6, 5], 42), ([6, 4], 43), ([2, 3], 44), ([5, 5], 45), ([6, 3], 46), ([5, 2], 47)])
theorem okB62 : chkB lB62 = true := by kernel_rfl
def lB63 : O7 := (7, [4, 6, 1], 2, 49, [[0, 0], [1, 0], [2, 0], [3, 0], [4, 0], [5, 0], [6, 0], [0, 1], [1, 1], [2, 1], [3, 1], [4, 1], [5, 1], [6, 1], [0, 2], [1, 2], [2, 2], [3, 2], [4, 2], [5, 2], [6, 2], [0, 3], [1, 3], [2, 3], [3, 3], [4, 3], [5, 3], [6, 3], [0, 4], [1, 4], [2, 4], [3, 4], [4, 4], [5, 4], [6, 4], [0, 5], [1, 5], [2, 5], [3, 5], [4, 5], [5, 5], [6, 5], [0, 6], [1, 6], [2, 6], [3, 6], [4, 6], [5, 6], [6, 6]], [[1, 0], [2, 1], [0, 5], [1, 1], [5, 4], [1, 3], [4, 3], [3, 6], [3, 0], [6, 3], [0, 1], [3, 3], [1, 5], [3, 2], [5, 2], [2, 4], [2, 0], [4, 2], [0, 3], [2, 2], [3, 1], [2, 6], [1, 6], [6, 5], [6, 0], [5, 6], [0, 2], [6, 6], [2, 3], [6, 4], [3, 4], [4, 1], [4, 0], [1, 4], [0, 6], [4, 4], [6, 2], [4, 5], [2, 5], [5, 3], [5, 0], [3, 5], [0, 4], [5, 5], [4, 6], [5, 1], [6, 1], [1, 2]], [([1, 0], 0), ([2, 1], 1), ([0, 5], 2), ([1, 1], 3), ([5, 4], 4), ([1, 3], 5), ([4, 3], 6), ([3, 6], 7), ([3, 0], 8), ([6, 3], 9), ([0, 1], 10), ([3, 3], 11), ([1, 5], 12), ([3, 2], 13), ([5, 2], 14), ([2, 4], 15), ([2, 0], 16), ([4, 2], 17), ([0, 3], 18), ([2, 2], 19), ([3, 1], 20), ([2, 6], 21), ([1, 6], 22), ([6, 5], 23), ([6, 0], 24), ([5, 6], 25), ([0, 2], 26), ([6, 6], 27), ([2, 3], 28), ([6, 4], 29), ([3, 4], 30), ([4, 1], 31), ([4, 0], 32), ([1, 4], 33), ([0, 6], 34), ([4, 4], 35), ([6, 2], 36), ([4, 5], 37), ([2, 5], 38), ([5, 3], 39), ([5, 0], 40), ([3, 5], 41), ([0, 4], 42), ([5, 5], 43), ([4, 6], 44), ([5, 1], 45), ([6, 1], 46), ([1, 2], 47)])
theorem okB63 : chkB lB63 = true := by kernel_rfl
def lB64 : O7 := (7, [6, 6, 1], 2, 49, [[0, 0], [1, 0], [2, 0], [3, 0], [4, 0], [5, 0], [6, 0], [0, 1], [1, 1], [2, 1], [3, 1], [4, 1], [5, 1], [6, 1], [0, 2], [1, 2], [2, 2], [3, 2], [4, 2], [5, 2], [6, 2], [0, 3], [1, 3], [2, 3], [3, 3], [4, 3], [5, 3], [6, 3], [0, 4], [1, 4], [2, 4], [3, 4], [4, 4], [5, 4], [6, 4], [0, 5], [1, 5], [2, 5], [3, 5], [4, 5], [5, 5], [6, 5], [0, 6], [1, 6], [2, 6], [3, 6], [4, 6], [5, 6], [6, 6]], [[1, 0], [2, 1], [5, 5], [1, 6], [1, 5], [0, 2], [2, 6], [3, 6], [5, 0], [3, 5], [4, 4], [5, 2], [5, 4], [0, 3], [3, 2], [1, 2], [4, 0], [1, 4], [6, 6], [4, 3], [4, 6], [0, 1], [1, 3], [5, 3], [6, 0], [5, 6], [2, 2], [6, 1], [6, 2], [0, 5], [5, 1], [4, 1], [2, 0], [4, 2], [3, 3], [2, 5], [2, 3], [0, 4], [4, 5], [6, 5], [3, 0], [6, 3], [1, 1], [3, 4], [3, 1], [0, 6], [6, 4], [2, 4]], [([1, 0], 0), ([2, 1], 1), ([5, 5], 2), ([1, 6], 3), ([1, 5], 4), ([0, 2], 5), ([2, 6], 6), ([3, 6], 7), ([5, 0], 8), ([3, 5], 9), ([4, 4], 10), ([5, 2], 11), ([5, 4], 12), ([0, 3], 13), ([3, 2], 14), ([1, 2], 15), ([4, 0], 16), ([1, 4], 17), ([6, 6], 18), ([4, 3], 19), ([4, 6], 20), ([0, 1], 21), ([1, 3], 22), ([5, 3], 23), ([6, 0], 24), ([5, 6], 25), ([2, 2], 26), ([6, 1], 27), ([6, 2], 28), ([0, 5], 29), ([5, 1], 30), ([4, 1], 31), ([2, 0], 32), ([4, 2], 33), ([3, 3], 34), ([2, 5], 35), ([2, 3], 36), ([0, 4], 37), ([4, 5], 38), ([6, 5], 39), ([3, 0], 40), ([6, 3], 41), ([1, 1], 42), ([3, 4], 43), ([3, 1], 44), ([0, 6], 45), ([6, 4], 46), ([2, 4], 47)])
theorem okB64 : chkB lB64 = true := by kernel_rfl
def litsB : List O7 := [lB0, lB1, lB2, lB3, lB4, lB5, lB6, lB7, lB8, lB9, lB10, lB11, lB12, lB13, lB14, lB15, lB16, lB17, lB18, lB19, lB20, lB21, lB22, lB23, lB24, lB25, lB26, lB27, lB28, lB29, lB30, lB31, lB32, lB33, lB34, lB35, lB36, lB37, lB38, lB39, lB40, lB41, lB42, lB43, lB44, lB45, lB46, lB47, lB48, lB49, lB50, lB51, lB52, lB53, lB54, lB55, lB56, lB57, lB58, lB59, lB60, lB61, lB62, lB63, lB64]
theorem all_LB : litsB.all chkB = true := by
  simp only [litsB, List.all_cons, List.all_nil, Bool.and_self, okB0, okB1, okB2, okB3, okB4, okB5, okB6, okB7, okB8, okB9, okB10, okB11, okB12, okB13, okB14, okB15, okB16, okB17, okB18, okB19, okB20, okB21, okB22, okB23, okB24, okB25, okB26, okB27, okB28, okB29, okB30, okB31, okB32, okB33, okB34, okB35, okB36, okB37, okB38, okB39, okB40, okB41, okB42, okB43, okB44, okB45, okB46, okB47, okB48, okB49, okB50, okB51, okB52, okB53, okB54, okB55, okB56, okB57, okB58, okB59, okB60, okB61, okB62, okB63, okB64]
theorem lit_okB {L : O7} (h : L ∈ litsB) : ∃ tx, m_Field___init__ () L.1 L.2.1 = .ok (toF L tx) ∧ FO (toF L tx) L.2.2.1.toNat ∧ (L.1 = 2 ∨ L.1 = 3 ∨ L.1 = 5 ∨ L.1 = 7) := by
  have e := List.all_eq_true.mp all_LB L h
  unfold chkB at e
  rw [Bool.and_eq_true, Bool.and_eq_true, decide_eq_true_eq] at e
  obtain ⟨tx, et⟩ := isL_ok e.1
  refine ⟨tx, et, ⟨chkT_ok e.2.1, ?_⟩, e.2.2.2⟩
  show L.2.2.1 = _
  have := e.2.2.1
  omega
end PM
set_option Elab.async false
set_option linter.all false
namespace PM
open PySem PySem.Spec PyProof.Rows L2 Mir

def m__law_is_prime_row_b1 (a_p : Int) (a_row : (List Int)) (x17 : Int) (s33 : Int) (x39 : Int) : R (Int) :=
  grd (CMul s33 x17) <| (getL a_row ((((a_row).length : Int) - (1 : Int)) - x39)).bind fun t46 => grd (0 < a_p) <| R.ok (((s33 * x17) + t46) % a_p)
def m__law_is_prime_row_b2 (a_p : Int) (a_row : (List Int)) (s11 : Unit) (x17 : Int) : R (Lp (Unit) (Bool)) :=
  (grd (rgOk ((a_row).length : Int)) <| foldR (m__law_is_prime_row_b1 a_p a_row x17) (0 : Int) (rng 0 (((a_row).length : Int)).toNat)).bind fun s28 => if (decide (s28 = (0 : Int))) = true then (R.ok (Lp.rt (decide (((a_row).length : Int) = (2 : Int))))) else (R.ok (Lp.nx ()))
def m__law_is_prime_row (a_p : Int) (a_row : (List Int)) : R Bool :=
  (grd (rgOk a_p) <| loopR (m__law_is_prime_row_b2 a_p a_row) () (rng 0 (a_p).toNat)).bind fun o => Le.thn o (fun s4 => R.ok true) (fun r => R.ok r)
def m__law_modulus_v3_b1 (a_p : Int) (s9 : List Int × List Int) (x10 : Int) : R (List Int × List Int) :=
  (m__law_take s9.2 a_p).bind fun t23 => grd (lenLt s9.1) <| R.ok ((s9.1 ++ [t23.1]), t23.2)
def m__law_modulus_v3_b2 (a_p : Int) (s89 : (List Int) × Int) (x95 : Int) : R ((List Int) × Int) :=
  if (decide (s89.2 = x95)) = true then ((getL s89.1 x95).bind fun t103 => grd (0 < a_p) <| (setL s89.1 x95 ((t103 + (1 : Int)) % a_p)).bind fun t107 => (getL t107 x95).bind fun t111 => if (decide (t111 = (0 : Int))) = true then (R.ok (t107, (x95 + (1 : Int)))) else (R.ok (t107, s89.2))) else (R.ok (s89.1, s89.2))
def m__law_modulus_v3_b3 (a_p : Int) (a_n : Int) (s60 : (List Int)) (x68 : Int) : R ((List Int)) :=
  (m__law_is_prime_row a_p s60).bind fun t77 => if (!t77) = true then ((grd (rgOk a_n) <| foldR (m__law_modulus_v3_b2 a_p) (s60, (0 : Int)) (rng 0 (a_n).toNat)).bind fun s84 => R.ok s84.1) else (R.ok s60)
def m__law_modulus_v3 (a_state : (List Int)) (a_p : Int) (a_n : Int) : R ((List Int) × (List Int)) :=
  grd (rgOk a_n) <| (foldR (m__law_modulus_v3_b1 a_p) ([], a_state) (rng 0 (a_n).toNat)).bind fun s16 => grd (lenOk (s16.1 ++ [(1 : Int)])) <| (grd (CMul a_p a_p) <| grd (CMul (a_p * a_p) a_p) <| grd (rgOk ((a_p * a_p) * a_p)) <| foldR (m__law_modulus_v3_b3 a_p a_n) (s16.1 ++ [(1 : Int)]) (rng 0 (((a_p * a_p) * a_p)).toNat)).bind fun s53 => R.ok (s53, s16.2)
def m__law_pair (a_state : (List Int)) : R ((Int × (List Int)) × (List Int)) :=
  (m__law_take a_state (5 : Int)).bind fun t8 => (getL ([(2 : Int), (2 : Int), (3 : Int), (3 : Int), (5 : Int)]) t8.1).bind fun t12 => (m__law_take t8.2 (2 : Int)).bind fun t15 => (if (decide (t12 = (2 : Int))) = true then ((m__law_take t15.2 (3 : Int)).bind fun t27 => R.ok (t27.2, ((1 : Int) + t27.1))) else (R.ok (t15.2, ((1 : Int) + t15.1)))).bind fun s22 => (m__law_modulus_v3 s22.1 t12 s22.2).bind fun t33 => R.ok ((t12, t33.1), t33.2)
def m__law_member_v4_b1 (a_p : Int) (s9 : List Int × List Int) (x10 : Int) : R (List Int × List Int) :=
  (m__law_take s9.2 a_p).bind fun t23 => grd (lenLt s9.1) <| R.ok ((s9.1 ++ [t23.1]), t23.2)
def m__law_member_v4 (a_state : (List Int)) (a_p : Int) (a_n : Int) : R ((List Int) × (List Int)) :=
  grd (rgOk a_n) <| (foldR (m__law_member_v4_b1 a_p) ([], a_state) (rng 0 (a_n).toNat)).bind fun s16 => R.ok (s16.1, s16.2)
def m__law_zero_v3_b1 (s8 : List Int) (x9 : Int) : R (List Int) :=
  grd (lenLt s8) <| R.ok (s8 ++ [(0 : Int)])
def m__law_zero_v3 (a_n : Int) : R (List Int) :=
  grd (rgOk a_n) <| (foldR m__law_zero_v3_b1 ([]) (rng 0 (a_n).toNat)).bind fun s15 => R.ok s15
def m__law_one_v2_b1 (s12 : List Int) (x13 : Int) : R (List Int) :=
  grd (lenLt s12) <| R.ok (s12 ++ [(0 : Int)])
def m__law_one_v2 (a_n : Int) : R (List Int) :=
  grd (rgOk (a_n - (1 : Int))) <| (foldR m__law_one_v2_b1 ([]) (rng 0 ((a_n - (1 : Int))).toNat)).bind fun s19 => grd (lenOk ([(1 : Int)] ++ s19)) <| R.ok ([(1 : Int)] ++ s19)
def m__law_reduce_b1 (a_p : Int) (s11 : List Int) (x12 : Int) : R (List Int) :=
  grd (0 < a_p) <| grd (lenLt s11) <| R.ok (s11 ++ [(x12 % a_p)])
def m__law_reduce_b2 (a_p : Int) (a_modulus : (List Int)) (x47 : Int) (t58 : Int) (s69 : (List Int)) (x75 : Int) : R ((List Int)) :=
  (getL s69 ((x47 - (((a_modulus).length : Int) - (1 : Int))) + x75)).bind fun t82 => (getL a_modulus x75).bind fun t85 => grd (CMul t58 t85) <| grd (0 < a_p) <| (setL s69 ((x47 - (((a_modulus).length : Int) - (1 : Int))) + x75) ((t82 - (t58 * t85)) % a_p)).bind fun t90 => R.ok t90
def m__law_reduce_b3 (a_p : Int) (a_modulus : (List Int)) (s41 : (List Int)) (x47 : Int) : R ((List Int)) :=
  (getL s41 x47).bind fun t58 => (grd (rgOk ((((a_modulus).length : Int) - (1 : Int)) + (1 : Int))) <| foldR (m__law_reduce_b2 a_p a_modulus x47 t58) s41 (rng 0 (((((a_modulus).length : Int) - (1 : Int)) + (1 : Int))).toNat)).bind fun s64 => R.ok s64
def m__law_reduce_b4 (s118 : List Int) (x119 : Int) : R (List Int) :=
  grd (lenLt s118) <| R.ok (s118 ++ [(0 : Int)])
def m__law_reduce (a_row : (List Int)) (a_p : Int) (a_modulus : (List Int)) : R (List Int) :=
  (foldR (m__law_reduce_b1 a_p) ([]) a_row).bind fun s18 => (grd (rg3Ok (((s18).length : Int) - (1 : Int)) ((((a_modulus).length : Int) - (1 : Int)) - (1 : Int)) (-(1 : Int))) <| foldR (m__law_reduce_b3 a_p a_modulus) s18 (rngC (((s18).length : Int) - (1 : Int)) (-(1 : Int)) (rg3n (((s18).length : Int) - (1 : Int)) ((((a_modulus).length : Int) - (1 : Int)) - (1 : Int)) (-(1 : Int))))).bind fun s34 => grd (rgOk ((((a_modulus).length : Int) - (1 : Int)) - ((s34).length : Int))) <| (foldR m__law_reduce_b4 ([]) (rng 0 (((((a_modulus).length : Int) - (1 : Int)) - ((s34).length : Int))).toNat)).bind fun s125 => grd (lenOk ((cutT s34 none (some (((a_modulus).length : Int) - (1 : Int)))) ++ s125)) <| R.ok ((cutT s34 none (some (((a_modulus).length : Int) - (1 : Int)))) ++ s125)
def m__law_multiply_b1 (s8 : List Int) (x9 : Int) : R (List Int) :=
  grd (lenLt s8) <| R.ok (s8 ++ [(0 : Int)])
def m__law_multiply_b2 (a_a : (List Int)) (a_b : (List Int)) (x42 : Int) (s58 : (List Int)) (x64 : Int) : R ((List Int)) :=
  (getL s58 (x42 + x64)).bind fun t71 => (getL a_a x42).bind fun t74 => (getL a_b x64).bind fun t77 => grd (CMul t74 t77) <| (setL s58 (x42 + x64) (t71 + (t74 * t77))).bind fun t81 => R.ok t81
def m__law_multiply_b3 (a_a : (List Int)) (a_b : (List Int)) (s36 : (List Int)) (x42 : Int) : R ((List Int)) :=
  (grd (rgOk ((a_b).length : Int)) <| foldR (m__law_multiply_b2 a_a a_b x42) s36 (rng 0 (((a_b).length : Int)).toNat)).bind fun s53 => R.ok s53
def m__law_multiply (a_p : Int) (a_modulus : (List Int)) (a_a : (List Int)) (a_b : (List Int)) : R (List Int) :=
  grd (rgOk (((a_a).length : Int) + ((a_b).length : Int))) <| (foldR m__law_multiply_b1 ([]) (rng 0 ((((a_a).length : Int) + ((a_b).length : Int))).toNat)).bind fun s15 => (grd (rgOk ((a_a).length : Int)) <| foldR (m__law_multiply_b3 a_a a_b) s15 (rng 0 (((a_a).length : Int)).toNat)).bind fun s30 => (m__law_reduce s30 a_p a_modulus).bind fun t92 => R.ok t92
def m_check_not_zero_v2 (a_field : O_Field) (a_a : (List Int)) : R Unit :=
  (noEr (m_Field_zero a_field)).bind fun t1 => if (decide (a_a = t1)) = true then R.out else (R.ok ())
def m_order_of_v2 (a_field : O_Field) (a_a : (List Int)) : R Int :=
  (m_check_not_zero_v2 a_field a_a).bind fun t1 => (m_least_exponent (a_field.2.2.2.1 - (1 : Int)) (m_lam2_v3 a_field a_a)).bind fun t11 => R.ok t11
def m_prime_divisors_b1 (s17 : List Int) (x18 : (Int × Int)) : R (List Int) :=
  grd (lenLt s17) <| R.ok (s17 ++ [x18.1])
def m_prime_divisors (a_n : Int) : R (List Int) :=
  (m_prime_powers a_n).bind fun t1 => (foldR m_prime_divisors_b1 ([]) t1).bind fun s24 => R.ok s24
def m_order_paper (a_field : O_Field) (a_a : (List Int)) : R (PySem.Str × Int × (List Int)) :=
  (noEr (m_Field_zero a_field)).bind fun t1 => if (decide (a_a = t1)) = true then (R.er .zd) else ((m_order_of_v2 a_field a_a).bind fun t7 => (noEr (m_prime_divisors t7)).bind fun t10 => R.ok (("order" : PySem.Str), t7, t10))
def m__law_primes_b1 (x23 : Int) (s42 : Bool) (x48 : Int) : R (Bool) :=
  grd (0 < x48) <| if (decide ((x23 % x48) = (0 : Int))) = true then (R.ok false) else (R.ok s42)
def m__law_primes_b2 (a_m : Int) (s17 : (List Int)) (x23 : Int) : R ((List Int)) :=
  grd (0 < x23) <| if (decide ((a_m % x23) = (0 : Int))) = true then ((grd (rg2Ok (2 : Int) x23) <| foldR (m__law_primes_b1 x23) true (rng (2 : Int) (x23 - (2 : Int)).toNat)).bind fun s37 => if s37 = true then (grd (lenLt s17) <| R.ok (s17 ++ [x23])) else (R.ok s17)) else (R.ok s17)
def m__law_primes (a_m : Int) : R (List Int) :=
  (grd (rg2Ok (2 : Int) (a_m + (1 : Int))) <| foldR (m__law_primes_b2 a_m) ([] : List Int) (rng (2 : Int) ((a_m + (1 : Int)) - (2 : Int)).toNat)).bind fun s10 => R.ok s10
def m_is_tuple_of (a_value : PySem.PyData) (a_length : Int) : R Bool :=
  (andR (R.ok (DatM.isD "tuple" a_value)) ((DatM.unTD a_value).bind fun t5 => R.ok (decide (((t5).length : Int) = a_length)))).bind fun t7 => R.ok t7
def m_is_paper (a_value : PySem.PyData) (a_word : PySem.Str) (a_length : Int) : R Bool :=
  (andR ((m_is_tuple_of a_value a_length).bind fun t2 => R.ok t2) ((DatM.unTD a_value).bind fun t8 => (getL t8 (0 : Int)).bind fun t10 => grd (DatM.shOk t10 (PyData.str a_word)) <| R.ok (PyData.eqv t10 (PyData.str a_word)))).bind fun t15 => R.ok t15
def m_is_integer_2 (a_value : PySem.PyData) : R Bool :=
  (andR (R.ok (DatM.isD "int" a_value)) (R.ok (!(DatM.isD "bool" a_value)))).bind fun t5 => R.ok t5
def m_Field_is_member_v2_b1 (a_self : O_Field) (s26 : List Bool) (x27 : PySem.PyData) : R (List Bool) :=
  (andR ((m_is_integer_2 x27).bind fun t40 => R.ok t40) ((DatM.unI x27).bind fun t46 => R.ok ((decide ((0 : Int) ≤ t46)) && (decide (t46 < a_self.1))))).bind fun t48 => grd (lenLt s26) <| R.ok (s26 ++ [t48])
def m_Field_is_member_v2 (a_self : O_Field) (a_value : PySem.PyData) : R Bool :=
  (orR (R.ok (!(DatM.isD "tuple" a_value))) ((DatM.unTD a_value).bind fun t5 => R.ok (!decide (((t5).length : Int) = a_self.2.2.1)))).bind fun t9 => if t9 = true then (R.ok false) else ((DatM.unTD a_value).bind fun t13 => (foldR (m_Field_is_member_v2_b1 a_self) ([]) t13).bind fun s33 => R.ok ((s33).all id))
def m_is_positive (a_value : PySem.PyData) : R Bool :=
  (andR ((m_is_integer_2 a_value).bind fun t2 => R.ok t2) ((DatM.unI a_value).bind fun t8 => R.ok (decide ((0 : Int) < t8)))).bind fun t10 => R.ok t10
def m_takes_order_b1 (a_field : O_Field) (a_a : PySem.PyData) (t27 : PySem.PyData) (t60 : (List Int)) (s95 : List Bool) (x96 : PySem.PyData) : R (List Bool) :=
  ((DatM.unT DatM.unI) a_a).bind fun t108 => (DatM.unI t27).bind fun t110 => (DatM.unI x96).bind fun t112 => grd (CDiv t110 t112) <| (noEr (m_Field_power a_field t108 (t110 / t112))).bind fun t115 => grd (lenLt s95) <| R.ok (s95 ++ [(!decide (t115 = t60))])
def m_takes_order (a_field : O_Field) (a_a : PySem.PyData) (a_paper : PySem.PyData) : R Bool :=
  (orR ((noEr (m_is_paper a_paper ("order" : PySem.Str) (3 : Int))).bind fun t2 => R.ok (!t2)) (orR ((noEr (m_Field_is_member_v2 a_field a_a)).bind fun t8 => R.ok (!t8)) ((noEr (m_Field_zero a_field)).bind fun t14 => grd (DatM.shOk a_a (PyData.tuple (t14.map PyData.int))) <| R.ok (PyData.eqv a_a (PyData.tuple (t14.map PyData.int)))))).bind fun t21 => if t21 = true then (R.ok false) else ((DatM.unTD a_paper).bind fun t25 => (getL t25 (1 : Int)).bind fun t27 => (orR ((noEr (m_is_positive t27)).bind fun t31 => R.ok (!t31)) (orR ((DatM.unI t27).bind fun t39 => R.ok (decide ((a_field.2.2.2.1 - (1 : Int)) < t39))) ((getL t25 (2 : Int)).bind fun t44 => (DatM.unI t27).bind fun t47 => (noEr (m_prime_divisors t47)).bind fun t49 => grd (DatM.shOk t44 (PyData.tuple (t49.map PyData.int))) <| R.ok (!(PyData.eqv t44 (PyData.tuple (t49.map PyData.int))))))).bind fun t56 => if t56 = true then (R.ok false) else ((noEr (m_Field_one a_field)).bind fun t60 => (andR (((DatM.unT DatM.unI) a_a).bind fun t66 => (DatM.unI t27).bind fun t68 => (m_Field_power a_field t66 t68).bind fun t70 => R.ok (decide (t70 = t60))) ((getL t25 (2 : Int)).bind fun t78 => (DatM.unTD t78).bind fun t81 => (foldR (m_takes_order_b1 a_field a_a t27 t60) ([]) t81).bind fun s102 => R.ok ((s102).all id))).bind fun t126 => R.ok t126))
end PM
set_option Elab.async false
set_option linter.all false
set_option maxRecDepth 100000
namespace PM
open PySem PySem.Spec PyProof.Rows L2 Mir
open Lean.Grind Pol
/-! ### what laws of family E draw (k38-k44: _law_pair, _law_modulus without roots) -/
def szE : List (Int × Int) := [(2, 1), (2, 2), (2, 3), (3, 1), (3, 2), (5, 1), (5, 2)]
def modE (p n : Int) (row : List Int) : R (List Int) := grd (lenOk (row ++ [1])) <| (grd (CMul p p) <| grd (CMul (p * p) p) <| grd (rgOk ((p * p) * p)) <| foldR (m__law_modulus_v3_b3 p n) (row ++ [1]) (rng 0 (((p * p) * p)).toNat))
def okE (c : Int × Int) (r : Int) : Bool := match modE c.1 c.2 (dg c.1 c.2.toNat r) with
  | .ok m => litsB.any fun L => decide (L.1 = c.1 ∧ L.2.1 = m ∧ L.2.2.1 = c.2)
  | _ => false
theorem all_ME : (szE.all fun c => decide (0 < c.1 ∧ c.1 ≤ 100 ∧ 0 ≤ c.2 ∧ c.2 ≤ 6 ∧ c.1 ^ c.2.toNat < 1073741824) && (rng 0 (c.1 ^ c.2.toNat).toNat).all (okE c)) = true := by kernel_rfl
/-- the literals of family E -/
def InE (L : O7) : Prop := L ∈ litsB ∧ (L.1, L.2.2.1) ∈ szE
theorem rowE {f : List Int × List Int → Int → R (List Int × List Int)} {p : Int} (hf : ∀ s x, f s x = ((m__law_take s.2 p).bind fun t => grd (lenLt s.1) <| R.ok ((s.1 ++ [t.1]), t.2))) (h0 : 0 < p) (h1 : p ≤ 100) (n : Nat) (hn : n ≤ 6) {t : List Int} (st : St t) : ∃ a t', foldR f ([], t) (rng 0 n) = .ok (a, t') ∧ Mem p n a ∧ St t' := by
  obtain ⟨s, e, i1, i2, i3⟩ := foldR_times (f := f) (fun k s => s.1.length = k ∧ (∀ x ∈ s.1, In p x) ∧ St s.2) n 0 ([], t) (fun k s x hk ⟨h1', h2, h3⟩ => by
    obtain ⟨v, t', e, st', v0, v1⟩ := take_okA h3 h0 (by omega)
    refine ⟨(s.1 ++ [v], t'), ?_, by rw [List.length_append, h1']; rfl, fun y hy => ?_, st'⟩
    · rw [hf, e, R.bind_ok, grd_ok (lenLt_small (by omega))]
    · rcases List.mem_append.mp hy with q | q
      · exact h2 y q
      · rw [List.mem_singleton.mp q]; exact ⟨v0, v1⟩) ⟨rfl, fun x hx => absurd hx (by simp), st⟩
  exact ⟨s.1, s.2, e, ⟨i1, i2⟩, i3⟩
theorem modulus_okE {p n : Int} (hc : (p, n) ∈ szE) {t : List Int} (st : St t) : ∃ L t', InE L ∧ St t' ∧ L.1 = p ∧ L.2.2.1 = n ∧ m__law_modulus_v3 t p n = .ok (L.2.1, t') := by
  have h := List.all_eq_true.mp all_ME _ hc
  rw [Bool.and_eq_true, decide_eq_true_eq] at h
  obtain ⟨⟨h1, h2, h3, h4, h5⟩, h6⟩ := h
  dsimp only at h1 h2 h3 h4 h5 h6
  obtain ⟨a, t', e, ha, st'⟩ := rowE (f := m__law_modulus_v3_b1 p) (fun s x => rfl) h1 h2 n.toNat (by omega) st
  obtain ⟨v, v0, v1, ev⟩ := dg_surj h1 n.toNat a ha
  have h7 := List.all_eq_true.mp h6 v (mem_rng v0 (by omega))
  unfold okE at h7
  dsimp only at h7
  rw [← ev] at h7
  cases em : modE p n a with
  | er _ => rw [em] at h7; cases h7
  | out => rw [em] at h7; cases h7
  | ok m =>
    rw [em] at h7
    obtain ⟨L, hL, eL⟩ := List.any_eq_true.mp h7
    rw [decide_eq_true_eq] at eL
    refine ⟨L, t', ⟨hL, by rw [eL.1, eL.2.2]; exact hc⟩, st', eL.1, eL.2.2, ?_⟩
    unfold m__law_modulus_v3
    rw [grd_ok (show rgOk n by unfold rgOk; omega), e, R.bind_ok]
    unfold modE at em
    by_cases q : lenOk (a ++ [(1 : Int)])
    · rw [grd_ok q] at em ⊢
      dsimp only
      rw [em, R.bind_ok, eL.2.1]
    · rw [grd_no q] at em
      cases em
theorem pair_okE {t : List Int} (st : St t) : ∃ L t', InE L ∧ St t' ∧ m__law_pair t = .ok ((L.1, L.2.1), t') := by
  obtain ⟨i, t1, e1, s1, i0, i1⟩ := take_okA st (show (0 : Int) < 5 by decide) (by decide)
  obtain ⟨j, t2, e2, s2, j0, j1⟩ := take_okA s1 (show (0 : Int) < 2 by decide) (by decide)
  obtain ⟨k, t3, e3, s3, k0, k1⟩ := take_okA s2 (show (0 : Int) < 3 by decide) (by decide)
  have hi : i = 0 ∨ i = 1 ∨ i = 2 ∨ i = 3 ∨ i = 4 := by omega
  have hj : j = 0 ∨ j = 1 := by omega
  have hk : k = 0 ∨ k = 1 ∨ k = 2 := by omega
  have odd : ∀ p : Int, p ≠ 2 → (p, 1 + j) ∈ szE → getL ([(2 : Int), (2 : Int), (3 : Int), (3 : Int), (5 : Int)]) i = .ok p → ∃ L t', InE L ∧ St t' ∧ m__law_pair t = .ok ((L.1, L.2.1), t') := fun p hp hc hg => by
    obtain ⟨L, t', hL, st', ep, en, em⟩ := modulus_okE hc s2
    refine ⟨L, t', hL, st', ?_⟩
    unfold m__law_pair
    rw [e1, R.bind_ok]
    dsimp only
    rw [hg, R.bind_ok, e2, R.bind_ok, if_neg (by rw [decide_eq_true_eq]; exact hp), R.bind_ok]
    dsimp only
    rw [em, R.bind_ok, ep]
  have two : getL ([(2 : Int), (2 : Int), (3 : Int), (3 : Int), (5 : Int)]) i = .ok 2 → ∃ L t', InE L ∧ St t' ∧ m__law_pair t = .ok ((L.1, L.2.1), t') := fun hg => by
    have hc : ((2 : Int), 1 + k) ∈ szE := by rcases hk with rfl | rfl | rfl <;> decide
    obtain ⟨L, t', hL, st', ep, en, em⟩ := modulus_okE hc s3
    refine ⟨L, t', hL, st', ?_⟩
    unfold m__law_pair
    rw [e1, R.bind_ok]
    dsimp only
    rw [hg, R.bind_ok, e2, R.bind_ok, if_pos (by decide), e3, R.bind_ok, R.bind_ok]
    dsimp only
    rw [em, R.bind_ok, ep]
  rcases hi with rfl | rfl | rfl | rfl | rfl
  · exact two rfl
  · exact two rfl
  · exact odd 3 (by decide) (by rcases hj with rfl | rfl <;> decide) rfl
  · exact odd 3 (by decide) (by rcases hj with rfl | rfl <;> decide) rfl
  · exact odd 5 (by decide) (by rcases hj with rfl | rfl <;> decide) rfl
theorem member_okE {p : Int} {n : Nat} (h0 : 0 < p) (h1 : p ≤ 100) (hn : n ≤ 6) {t : List Int} (st : St t) : ∃ a t', m__law_member_v4 t p (n : Int) = .ok (a, t') ∧ Mem p n a ∧ St t' := by
  obtain ⟨a, t', e, ha, st'⟩ := rowE (f := m__law_member_v4_b1 p) (fun s x => rfl) h0 h1 n hn st
  refine ⟨a, t', ?_, ha, st'⟩
  unfold m__law_member_v4
  rw [grd_ok (show rgOk (n : Int) by unfold rgOk; omega), Int.toNat_natCast, e, R.bind_ok]
theorem stepR {α β : Type} {m : R α} {k : α → R β} {x : α} {y : β} (e : m = .ok x) (h : k x = .ok y) : m.bind k = .ok y := by
  rw [e]
  exact h
theorem szE_or {p n : Int} (h : (p, n) ∈ szE) : (p = 2 ∧ n = 1) ∨ (p = 2 ∧ n = 2) ∨ (p = 2 ∧ n = 3) ∨ (p = 3 ∧ n = 1) ∨ (p = 3 ∧ n = 2) ∨ (p = 5 ∧ n = 1) ∨ (p = 5 ∧ n = 2) := by
  unfold szE at h
  simp only [List.mem_cons, Prod.mk.injEq, List.not_mem_nil, or_false] at h
  exact h
theorem zero_okE {p n : Int} (h : (p, n) ∈ szE) : m__law_zero_v3 n = .ok (dg p n.toNat 0) := by
  rcases szE_or h with ⟨rfl, rfl⟩ | ⟨rfl, rfl⟩ | ⟨rfl, rfl⟩ | ⟨rfl, rfl⟩ | ⟨rfl, rfl⟩ | ⟨rfl, rfl⟩ | ⟨rfl, rfl⟩ <;> kernel_rfl
theorem one_okE {p n : Int} (h : (p, n) ∈ szE) : m__law_one_v2 n = .ok (dg p n.toNat 1) := by
  rcases szE_or h with ⟨rfl, rfl⟩ | ⟨rfl, rfl⟩ | ⟨rfl, rfl⟩ | ⟨rfl, rfl⟩ | ⟨rfl, rfl⟩ | ⟨rfl, rfl⟩ | ⟨rfl, rfl⟩ <;> kernel_rfl
/-- a field of family E with all that the laws need first -/
theorem lit_okE {L : O7} (h : InE L) : ∃ tx, m_Field___init__ () L.1 L.2.1 = .ok (toF L tx) ∧ FO (toF L tx) L.2.2.1.toNat ∧ (((L.2.1).length : Int) - (1 : Int)) = ((L.2.2.1.toNat : Nat) : Int) ∧ ((L.2.2.1.toNat : Nat) : Int) = L.2.2.1 ∧ 0 < L.1 ∧ L.1 ≤ 5 ∧ 1 ≤ L.2.2.1.toNat ∧ L.2.2.1.toNat ≤ 3 := by
  obtain ⟨tx, e, fo, _⟩ := lit_okB h.1
  have lm := fo.fm.len
  have lm' : L.2.1.length = L.2.2.1.toNat + 1 := lm
  have z : 0 < L.1 ∧ L.1 ≤ 5 ∧ 1 ≤ L.2.2.1 ∧ L.2.2.1 ≤ 3 := by
    rcases szE_or h.2 with ⟨h1, h2⟩ | ⟨h1, h2⟩ | ⟨h1, h2⟩ | ⟨h1, h2⟩ | ⟨h1, h2⟩ | ⟨h1, h2⟩ | ⟨h1, h2⟩ <;> rw [h1, h2] <;> decide
  exact ⟨tx, e, fo, by rw [lm']; omega, by omega, z.1, z.2.1, by omega, by omega⟩
end PM
set_option Elab.async false
set_option linter.all false
set_option maxRecDepth 100000
namespace Pf
theorem br__law_state : @m__law_state = @PM.m__law_state := rfl
theorem br__law_pair : @m__law_pair = @PM.m__law_pair := rfl
theorem br_Field___init__ : @m_Field___init__ = @PM.m_Field___init__ := rfl
theorem br__law_member : @m__law_member = @PM.m__law_member_v4 := rfl
theorem br__law_zero : @m__law_zero = @PM.m__law_zero_v3 := rfl
theorem br__law_one : @m__law_one = @PM.m__law_one_v2 := rfl
end Pf
set_option Elab.async false
set_option linter.all false
set_option maxRecDepth 100000
namespace Pf
open PySem PySem.Spec PyProof.Rows L2 Mir
open Lean.Grind Pol PM
def rest (F : O_Field) (p : Int) (m u a : List Int) : R Bool :=
  (grd (rgOk F.2.2.2.1) <| foldR (m_law_b1 ((p, m), u) a) ((1 : Int), a) (rng 0 (F.2.2.2.1).toNat)).bind fun s63 => (m_order_paper F a).bind fun t100 => (orR ((m__law_primes s63.1).bind fun t106 => grd (DatM.shOk (PyData.tuple [(PyData.str t100.1), (PyData.int t100.2.1), (PyData.tuple (t100.2.2.map PyData.int))]) (PyData.tuple [(PyData.str ((("order" : PySem.Str), s63.1, t106).1)), (PyData.int ((("order" : PySem.Str), s63.1, t106).2.1)), (PyData.tuple (((("order" : PySem.Str), s63.1, t106).2.2).map PyData.int))])) <| R.ok (!(PyData.eqv (PyData.tuple [(PyData.str t100.1), (PyData.int t100.2.1), (PyData.tuple (t100.2.2.map PyData.int))]) (PyData.tuple [(PyData.str ((("order" : PySem.Str), s63.1, t106).1)), (PyData.int ((("order" : PySem.Str), s63.1, t106).2.1)), (PyData.tuple (((("order" : PySem.Str), s63.1, t106).2.2).map PyData.int))])))) ((m_takes_order F (PyData.tuple (a.map PyData.int)) (PyData.tuple [(PyData.str t100.1), (PyData.int t100.2.1), (PyData.tuple (t100.2.2.map PyData.int))])).bind fun t123 => R.ok (!decide (t123 = true)))).bind fun t126 => if t126 = true then (R.ok false) else ((grd (rg2Ok (1 : Int) (F.2.2.2.1 + (1 : Int))) <| loopR (m_law_b2 F a s63) () (rng (1 : Int) ((F.2.2.2.1 + (1 : Int)) - (1 : Int)).toNat)).bind fun o => Le.thn o (fun s133 => (m__law_primes s63.1).bind fun t174 => grd (lenOk (t174 ++ [(7 : Int)])) <| (m__law_primes s63.1).bind fun t196 => (m__law_primes s63.1).bind fun t218 => (m__law_primes s63.1).bind fun t237 => grd (lenLt ([(PyData.tuple ([(PyData.str ("order" : PySem.Str)), (PyData.int s63.1), (PyData.tuple ((t174 ++ [(7 : Int)]).map PyData.int))])), (PyData.tuple ([(PyData.str ("order" : PySem.Str)), (PyData.int s63.1), (PyData.list (t196.map PyData.int))])), (PyData.tuple ([(PyData.str ("orders" : PySem.Str)), (PyData.int s63.1), (PyData.tuple (t218.map PyData.int))]))])) <| (if (decide ((1 : Int) < s63.1)) = true then ((m__law_primes s63.1).bind fun t262 => grd (lenLt ([(PyData.tuple ([(PyData.str ("order" : PySem.Str)), (PyData.int s63.1), (PyData.tuple ((t174 ++ [(7 : Int)]).map PyData.int))])), (PyData.tuple ([(PyData.str ("order" : PySem.Str)), (PyData.int s63.1), (PyData.list (t196.map PyData.int))])), (PyData.tuple ([(PyData.str ("orders" : PySem.Str)), (PyData.int s63.1), (PyData.tuple (t218.map PyData.int))]))] ++ [(PyData.tuple ([(PyData.str ("order" : PySem.Str)), (PyData.int (-s63.1)), (PyData.tuple (t237.map PyData.int))]))])) <| R.ok (([(PyData.tuple ([(PyData.str ("order" : PySem.Str)), (PyData.int s63.1), (PyData.tuple ((t174 ++ [(7 : Int)]).map PyData.int))])), (PyData.tuple ([(PyData.str ("order" : PySem.Str)), (PyData.int s63.1), (PyData.list (t196.map PyData.int))])), (PyData.tuple ([(PyData.str ("orders" : PySem.Str)), (PyData.int s63.1), (PyData.tuple (t218.map PyData.int))]))] ++ [(PyData.tuple ([(PyData.str ("order" : PySem.Str)), (PyData.int (-s63.1)), (PyData.tuple (t237.map PyData.int))]))]) ++ [(PyData.tuple ([(PyData.str ("order" : PySem.Str)), (PyData.int s63.1), (PyData.tuple ((cutT t262 (some (1 : Int)) none).map PyData.int))]))])) else (R.ok ([(PyData.tuple ([(PyData.str ("order" : PySem.Str)), (PyData.int s63.1), (PyData.tuple ((t174 ++ [(7 : Int)]).map PyData.int))])), (PyData.tuple ([(PyData.str ("order" : PySem.Str)), (PyData.int s63.1), (PyData.list (t196.map PyData.int))])), (PyData.tuple ([(PyData.str ("orders" : PySem.Str)), (PyData.int s63.1), (PyData.tuple (t218.map PyData.int))]))] ++ [(PyData.tuple ([(PyData.str ("order" : PySem.Str)), (PyData.int (-s63.1)), (PyData.tuple (t237.map PyData.int))]))]))).bind fun s255 => (loopR (m_law_b3 F a) () s255).bind fun o => Le.thn o (fun s286 => ((m_Field_zero F).bind fun t324 => grd (lenOk (a ++ [(0 : Int)])) <| loopR (m_law_b4 F t100) () ([(PyData.tuple (t324.map PyData.int)), PyData.none, (PyData.tuple ((a ++ [(0 : Int)]).map PyData.int)), (PyData.list (a.map PyData.int)), (PyData.int (1 : Int))])).bind fun o => Le.thn o (fun s315 => (m__law_refused F).bind fun t378 => R.ok t378) (fun r => R.ok r)) (fun r => R.ok r)) (fun r => R.ok r))
def ck (L : O7) (tx : List (PySem.Str × (List Int))) (u : List Int) : Bool := L.2.2.2.2.1.all fun a => decide (a = dg L.1 L.2.2.1.toNat 0) || decide (rest (toF L tx) L.1 L.2.1 u a = .ok true)
theorem ck0 (tx u) : (!decide ((lB0.1, lB0.2.2.1) ∈ szE) || ck lB0 tx u) = true := by kernel_rfl
theorem ck1 (tx u) : (!decide ((lB1.1, lB1.2.2.1) ∈ szE) || ck lB1 tx u) = true := by kernel_rfl
theorem ck2 (tx u) : (!decide ((lB2.1, lB2.2.2.1) ∈ szE) || ck lB2 tx u) = true := by kernel_rfl
theorem ck3 (tx u) : (!decide ((lB3.1, lB3.2.2.1) ∈ szE) || ck lB3 tx u) = true := by kernel_rfl
theorem ck4 (tx u) : (!decide ((lB4.1, lB4.2.2.1) ∈ szE) || ck lB4 tx u) = true := by kernel_rfl
theorem ck5 (tx u) : (!decide ((lB5.1, lB5.2.2.1) ∈ szE) || ck lB5 tx u) = true := by kernel_rfl
theorem ck6 (tx u) : (!decide ((lB6.1, lB6.2.2.1) ∈ szE) || ck lB6 tx u) = true := by kernel_rfl
theorem ck7 (tx u) : (!decide ((lB7.1, lB7.2.2.1) ∈ szE) || ck lB7 tx u) = true := by kernel_rfl
theorem ck8 (tx u) : (!decide ((lB8.1, lB8.2.2.1) ∈ szE) || ck lB8 tx u) = true := by kernel_rfl
theorem ck9 (tx u) : (!decide ((lB9.1, lB9.2.2.1) ∈ szE) || ck lB9 tx u) = true := by kernel_rfl
theorem ck10 (tx u) : (!decide ((lB10.1, lB10.2.2.1) ∈ szE) || ck lB10 tx u) = true := by kernel_rfl
theorem ck11 (tx u) : (!decide ((lB11.1, lB11.2.2.1) ∈ szE) || ck lB11 tx u) = true := by kernel_rfl
theorem ck12 (tx u) : (!decide ((lB12.1, lB12.2.2.1) ∈ szE) || ck lB12 tx u) = true := by kernel_rfl
theorem ck13 (tx u) : (!decide ((lB13.1, lB13.2.2.1) ∈ szE) || ck lB13 tx u) = true := by kernel_rfl
theorem ck14 (tx u) : (!decide ((lB14.1, lB14.2.2.1) ∈ szE) || ck lB14 tx u) = true := by kernel_rfl
theorem ck15 (tx u) : (!decide ((lB15.1, lB15.2.2.1) ∈ szE) || ck lB15 tx u) = true := by kernel_rfl
theorem ck16 (tx u) : (!decide ((lB16.1, lB16.2.2.1) ∈ szE) || ck lB16 tx u) = true := by kernel_rfl
theorem ck17 (tx u) : (!decide ((lB17.1, lB17.2.2.1) ∈ szE) || ck lB17 tx u) = true := by kernel_rfl
theorem ck18 (tx u) : (!decide ((lB18.1, lB18.2.2.1) ∈ szE) || ck lB18 tx u) = true := by kernel_rfl
theorem ck19 (tx u) : (!decide ((lB19.1, lB19.2.2.1) ∈ szE) || ck lB19 tx u) = true := by kernel_rfl
theorem ck20 (tx u) : (!decide ((lB20.1, lB20.2.2.1) ∈ szE) || ck lB20 tx u) = true := by kernel_rfl
theorem ck21 (tx u) : (!decide ((lB21.1, lB21.2.2.1) ∈ szE) || ck lB21 tx u) = true := by kernel_rfl
theorem ck22 (tx u) : (!decide ((lB22.1, lB22.2.2.1) ∈ szE) || ck lB22 tx u) = true := by kernel_rfl
theorem ck23 (tx u) : (!decide ((lB23.1, lB23.2.2.1) ∈ szE) || ck lB23 tx u) = true := by kernel_rfl
theorem ck24 (tx u) : (!decide ((lB24.1, lB24.2.2.1) ∈ szE) || ck lB24 tx u) = true := by kernel_rfl
theorem ck25 (tx u) : (!decide ((lB25.1, lB25.2.2.1) ∈ szE) || ck lB25 tx u) = true := by kernel_rfl
theorem ck26 (tx u) : (!decide ((lB26.1, lB26.2.2.1) ∈ szE) || ck lB26 tx u) = true := by kernel_rfl
theorem ck27 (tx u) : (!decide ((lB27.1, lB27.2.2.1) ∈ szE) || ck lB27 tx u) = true := by kernel_rfl
theorem ck28 (tx u) : (!decide ((lB28.1, lB28.2.2.1) ∈ szE) || ck lB28 tx u) = true := by kernel_rfl
theorem ck29 (tx u) : (!decide ((lB29.1, lB29.2.2.1) ∈ szE) || ck lB29 tx u) = true := by kernel_rfl
theorem ck30 (tx u) : (!decide ((lB30.1, lB30.2.2.1) ∈ szE) || ck lB30 tx u) = true := by kernel_rfl
theorem ck31 (tx u) : (!decide ((lB31.1, lB31.2.2.1) ∈ szE) || ck lB31 tx u) = true := by kernel_rfl
theorem ck32 (tx u) : (!decide ((lB32.1, lB32.2.2.1) ∈ szE) || ck lB32 tx u) = true := by kernel_rfl
theorem ck33 (tx u) : (!decide ((lB33.1, lB33.2.2.1) ∈ szE) || ck lB33 tx u) = true := by kernel_rfl
theorem ck34 (tx u) : (!decide ((lB34.1, lB34.2.2.1) ∈ szE) || ck lB34 tx u) = true := by kernel_rfl
theorem ck35 (tx u) : (!decide ((lB35.1, lB35.2.2.1) ∈ szE) || ck lB35 tx u) = true := by kernel_rfl
theorem ck36 (tx u) : (!decide ((lB36.1, lB36.2.2.1) ∈ szE) || ck lB36 tx u) = true := by kernel_rfl
theorem ck37 (tx u) : (!decide ((lB37.1, lB37.2.2.1) ∈ szE) || ck lB37 tx u) = true := by kernel_rfl
theorem ck38 (tx u) : (!decide ((lB38.1, lB38.2.2.1) ∈ szE) || ck lB38 tx u) = true := by kernel_rfl
theorem ck39 (tx u) : (!decide ((lB39.1, lB39.2.2.1) ∈ szE) || ck lB39 tx u) = true := by kernel_rfl
theorem ck40 (tx u) : (!decide ((lB40.1, lB40.2.2.1) ∈ szE) || ck lB40 tx u) = true := by kernel_rfl
theorem ck41 (tx u) : (!decide ((lB41.1, lB41.2.2.1) ∈ szE) || ck lB41 tx u) = true := by kernel_rfl
theorem ck42 (tx u) : (!decide ((lB42.1, lB42.2.2.1) ∈ szE) || ck lB42 tx u) = true := by kernel_rfl
theorem ck43 (tx u) : (!decide ((lB43.1, lB43.2.2.1) ∈ szE) || ck lB43 tx u) = true := by kernel_rfl
theorem ck44 (tx u) : (!decide ((lB44.1, lB44.2.2.1) ∈ szE) || ck lB44 tx u) = true := by kernel_rfl
theorem ck45 (tx u) : (!decide ((lB45.1, lB45.2.2.1) ∈ szE) || ck lB45 tx u) = true := by kernel_rfl
theorem ck46 (tx u) : (!decide ((lB46.1, lB46.2.2.1) ∈ szE) || ck lB46 tx u) = true := by kernel_rfl
theorem ck47 (tx u) : (!decide ((lB47.1, lB47.2.2.1) ∈ szE) || ck lB47 tx u) = true := by kernel_rfl
theorem ck48 (tx u) : (!decide ((lB48.1, lB48.2.2.1) ∈ szE) || ck lB48 tx u) = true := by kernel_rfl
theorem ck49 (tx u) : (!decide ((lB49.1, lB49.2.2.1) ∈ szE) || ck lB49 tx u) = true := by kernel_rfl
theorem ck50 (tx u) : (!decide ((lB50.1, lB50.2.2.1) ∈ szE) || ck lB50 tx u) = true := by kernel_rfl
theorem ck51 (tx u) : (!decide ((lB51.1, lB51.2.2.1) ∈ szE) || ck lB51 tx u) = true := by kernel_rfl
theorem ck52 (tx u) : (!decide ((lB52.1, lB52.2.2.1) ∈ szE) || ck lB52 tx u) = true := by kernel_rfl
theorem ck53 (tx u) : (!decide ((lB53.1, lB53.2.2.1) ∈ szE) || ck lB53 tx u) = true := by kernel_rfl
theorem ck54 (tx u) : (!decide ((lB54.1, lB54.2.2.1) ∈ szE) || ck lB54 tx u) = true := by kernel_rfl
theorem ck55 (tx u) : (!decide ((lB55.1, lB55.2.2.1) ∈ szE) || ck lB55 tx u) = true := by kernel_rfl
theorem ck56 (tx u) : (!decide ((lB56.1, lB56.2.2.1) ∈ szE) || ck lB56 tx u) = true := by kernel_rfl
theorem ck57 (tx u) : (!decide ((lB57.1, lB57.2.2.1) ∈ szE) || ck lB57 tx u) = true := by kernel_rfl
theorem ck58 (tx u) : (!decide ((lB58.1, lB58.2.2.1) ∈ szE) || ck lB58 tx u) = true := by kernel_rfl
theorem ck59 (tx u) : (!decide ((lB59.1, lB59.2.2.1) ∈ szE) || ck lB59 tx u) = true := by kernel_rfl
theorem ck60 (tx u) : (!decide ((lB60.1, lB60.2.2.1) ∈ szE) || ck lB60 tx u) = true := by kernel_rfl
theorem ck61 (tx u) : (!decide ((lB61.1, lB61.2.2.1) ∈ szE) || ck lB61 tx u) = true := by kernel_rfl
theorem ck62 (tx u) : (!decide ((lB62.1, lB62.2.2.1) ∈ szE) || ck lB62 tx u) = true := by kernel_rfl
theorem ck63 (tx u) : (!decide ((lB63.1, lB63.2.2.1) ∈ szE) || ck lB63 tx u) = true := by kernel_rfl
theorem ck64 (tx u) : (!decide ((lB64.1, lB64.2.2.1) ∈ szE) || ck lB64 tx u) = true := by kernel_rfl
theorem ck_all (tx u) : (litsB.all fun L => !decide ((L.1, L.2.2.1) ∈ szE) || ck L tx u) = true := by
  simp only [litsB, List.all_cons, List.all_nil, Bool.and_self, ck0, ck1, ck2, ck3, ck4, ck5, ck6, ck7, ck8, ck9, ck10, ck11, ck12, ck13, ck14, ck15, ck16, ck17, ck18, ck19, ck20, ck21, ck22, ck23, ck24, ck25, ck26, ck27, ck28, ck29, ck30, ck31, ck32, ck33, ck34, ck35, ck36, ck37, ck38, ck39, ck40, ck41, ck42, ck43, ck44, ck45, ck46, ck47, ck48, ck49, ck50, ck51, ck52, ck53, ck54, ck55, ck56, ck57, ck58, ck59, ck60, ck61, ck62, ck63, ck64]
end Pf
set_option Elab.async false
set_option linter.all false
set_option maxRecDepth 100000
namespace Pf
open PySem PySem.Spec PyProof.Rows L2 Mir
open Lean.Grind Pol PM
theorem law_true : ∀ ns : List Int, ns.length ≤ 63 → m_law ns = R.ok true := by
  intro ns hn
  obtain ⟨t, e, st⟩ := state_okA ns
  obtain ⟨L, t2, hL, st2, e2⟩ := pair_okE st
  obtain ⟨tx, ei, fo, em, en, p0, p1, n0, n1⟩ := lit_okE hL
  obtain ⟨a, t3, e3, ha, st3⟩ := member_okE (n := L.2.2.1.toNat) p0 (by omega) (by omega) st2
  have ez := zero_okE hL.2
  have eo := one_okE hL.2
  rw [← en, Int.toNat_natCast] at ez eo
  have hz : L.2.2.1.toNat = L.2.2.1.toNat := rfl
  obtain ⟨v, v0, v1, ev⟩ := dg_surj p0 L.2.2.1.toNat a ha
  have c := List.all_eq_true.mp (ck_all tx t2) L hL.1
  rw [_root_.decide_eq_true hL.2, Bool.not_true, Bool.false_or] at c
  have hm : ∀ b, Mem L.1 L.2.2.1.toNat b → b ∈ L.2.2.2.2.1 := fun b hb => by
    obtain ⟨w, w0, w1, ew⟩ := dg_surj p0 L.2.2.1.toNat b hb
    have ms := fo.t.mse
    have ms' : L.2.2.2.2.1 = _ := ms
    rw [ms', ew]
    have w2 : w < (toF L tx).1 ^ L.2.2.1.toNat := w1
    exact List.mem_map_of_mem (mem_rng w0 (by omega))
  have one : Mem L.1 L.2.2.1.toNat (dg L.1 L.2.2.1.toNat 1) := dg_mem p0 _ _
  have nz : dg L.1 L.2.2.1.toNat 1 ≠ dg L.1 L.2.2.1.toNat 0 := by
    rcases szE_or hL.2 with ⟨h1, h2⟩ | ⟨h1, h2⟩ | ⟨h1, h2⟩ | ⟨h1, h2⟩ | ⟨h1, h2⟩ | ⟨h1, h2⟩ | ⟨h1, h2⟩ <;> rw [h1, h2] <;> decide
  have key : ∀ b, Mem L.1 L.2.2.1.toNat b → b ≠ dg L.1 L.2.2.1.toNat 0 → rest (toF L tx) L.1 L.2.1 t2 b = .ok true := fun b hb nb => by
    have := List.all_eq_true.mp c b (hm b hb)
    rw [Bool.or_eq_true, decide_eq_true_eq, decide_eq_true_eq] at this
    exact this.resolve_left nb
  unfold m_law
  refine stepR ((congrFun br__law_state ns).trans e) ?_
  refine stepR ((congrFun br__law_pair t).trans e2) ?_
  refine stepR (x := toF L tx) ((congrFun (congrFun (congrFun br_Field___init__ ()) L.1) L.2.1).trans ei) ?_
  refine stepR (x := (a, t3)) ((congrFun (congrFun (congrFun br__law_member t2) L.1) _).trans (by rw [show (((((L.1, L.2.1), t2) : (Int × List Int) × List Int).1.2).length : Int) - (1 : Int) = _ from em]; exact e3)) ?_
  refine stepR (x := if a = dg L.1 L.2.2.1.toNat 0 then dg L.1 L.2.2.1.toNat 1 else a) ?_ ?_
  · rw [show (((((L.1, L.2.1), t2) : (Int × List Int) × List Int).1.2).length : Int) - (1 : Int) = _ from em, show m__law_zero _ = _ from (congrFun br__law_zero _).trans ez, R.bind_ok]
    dsimp only
    by_cases q : a = dg L.1 L.2.2.1.toNat 0
    · rw [if_pos (by rw [decide_eq_true_eq]; exact q), if_pos q, show m__law_one _ = _ from (congrFun br__law_one _).trans eo, R.bind_ok]
    · rw [if_neg (by rw [decide_eq_true_eq]; exact q), if_neg q]
  · by_cases q : a = dg L.1 L.2.2.1.toNat 0
    · rw [if_pos q]
      exact key _ one nz
    · rw [if_neg q]
      exact key _ ha q
end Pf

open PySem PySem.W PyProof.Rows
set_option maxRecDepth 100000 in
set_option maxHeartbeats 0 in
theorem PySem.Challenge.cw_fieldmaps_k42_papers_of_orders_holds : PySem.Challenge.rw_fieldmaps_k42_papers_of_orders.Holds := by
  w_on; o_law; k_head; (case hw => w_witness2)
  k_fill
  refine LamX.walk_ofTs (l := PySem.Challenge.rw_fieldmaps_k42_papers_of_orders) (n := 63) (k := 11) (x := "script") (CX := fun _ => L2.CX0) rfl (by decide) rfl ⟨rfl, by decide, by decide⟩ (fun w h Y => km_in_of Y) ?F (fun _ _ _ _ _ h => h)
  case F =>
    intro w mg fa h Y KX G hmg
    refine' Pf.all_mk KX G hmg ?a1 ?l1 ?c1 ?k1 ?a2 ?l2 ?c2 ?k2 ?a3 ?l3 ?c3 ?k3 ?a4 ?l4 ?c4 ?k4 ?a5 ?l5 ?c5 ?k5 ?a6 ?l6 ?c6 ?k6 ?a7 ?l7 ?c7 ?k7 ?a8 ?l8 ?c8 ?k8 ?a9 ?l9 ?c9 ?k9 ?a10 ?l10 ?c10 ?k10 ?a11 ?l11 ?c11 ?k11 ?a12 ?l12 ?c12 ?k12 ?a13 ?l13 ?c13 ?k13 ?a14 ?l14 ?c14 ?k14 ?a15 ?l15 ?c15 ?k15 ?a16 ?l16 ?c16 ?k16 ?a17 ?l17 ?c17 ?k17 ?a18 ?l18 ?c18 ?k18 ?a19 ?l19 ?c19 ?k19 ?a20 ?l20 ?c20 ?k20 ?a21 ?l21 ?c21 ?k21 ?a22 ?l22 ?c22 ?k22 ?a23 ?l23 ?c23 ?k23 ?a24 ?l24 ?c24 ?k24 ?a25 ?l25 ?c25 ?k25 ?a26 ?l26 ?c26 ?k26 ?a27 ?l27 ?c27 ?k27 ?a28 ?l28 ?c28 ?k28 ?a29 ?i29 ?l29 ?c29 ?k29 ?a30 ?i30 ?l30 ?c30 ?k30 ?d30 ?a31 ?l31 ?c31 ?k31 ?a32 ?l32 ?c32 ?k32 ?a33 ?l33 ?c33 ?k33 ?a34 ?l34 ?c34 ?k34 ?a35 ?l35 ?c35 ?k35 ?a36 ?i36 ?l36 ?c36 ?k36 ?a37 ?l37 ?c37 ?k37 ?a38 ?i38 ?l38 ?c38 ?k38 ?a39 ?i39 ?l39 ?c39 ?k39 ?a40 ?l40 ?c40 ?k40 ?a41 ?l41 ?c41 ?k41 ?a42 ?l42 ?c42 ?k42 ?a43 ?l43 ?c43 ?k43 ?a44 ?l44 ?c44 ?k44 ?a45 ?l45 ?c45 ?k45 ?a46 ?l46 ?c46 ?k46 ?a47 ?l47 ?c47 ?k47 ?a48 ?i48 ?l48 ?c48 ?k48 ?a49 ?l49 ?c49 ?k49 ?a50 ?l50 ?c50 ?k50 ?a51 ?l51 ?c51 ?k51 ?a52 ?l52 ?c52 ?k52 ?z_abs ?z_int ?z_range ?z_len ?z_tuple ?z_isinstance ?z_bool ?z_list ?z_reversed ?z_enumerate ?z_max ?z_zip ?z_all ?z_sum ?gn_fault ?gn_zd ?gn_mal ?gn_refu ?gn_Field ?mk_Field ?kp_Field ?xx_zd ?xk_zd ?xb_zd ?xt_zd ?xx_mal ?xk_mal ?xb_mal ?xt_mal ?gg_MOST_MEMBERS ?pg_Field ?hd_Field ?po_Field ?sa_Field ?na_Field_n ?na_Field_p ?na_Field_modulus ?na_Field_q ?na_Field__members ?na_Field__powers ?na_Field__logarithms ?na_Field__texts ?ed_zd ?ss_zd_zd ?q17 ?p17 ?h17 ?u17 ?v17 ?q42 ?p42 ?h42 ?u42 ?v42 ?hmath
    (case gn_fault => k_is); (case gn_zd => k_is); (case gn_mal => k_is); (case gn_refu => k_is); (case gn_Field => k_is); (case a1 => k_is); (case l1 => k_is); (case c1 => k_is); (case k1 => k_is); (case a2 => k_is); (case l2 => k_is); (case c2 => k_is); (case k2 => k_is); (case a3 => k_is); (case l3 => k_is); (case c3 => k_is); (case k3 => k_is); (case a4 => k_is); (case l4 => k_is); (case c4 => k_is); (case k4 => k_is); (case a5 => k_is); (case l5 => k_is); (case c5 => k_is); (case k5 => k_is); (case a6 => k_is); (case l6 => k_is); (case c6 => k_is); (case k6 => k_is); (case a7 => k_is); (case l7 => k_is); (case c7 => k_is); (case k7 => k_is); (case a8 => k_is); (case l8 => k_is); (case c8 => k_is); (case k8 => k_is); (case a9 => k_is); (case l9 => k_is); (case c9 => k_is); (case k9 => k_is); (case a10 => k_is); (case l10 => k_is); (case c10 => k_is); (case k10 => k_is); (case a11 => k_is); (case l11 => k_is); (case c11 => k_is); (case k11 => k_is); (case a12 => k_is); (case l12 => k_is); (case c12 => k_is); (case k12 => k_is); (case a13 => k_is); (case l13 => k_is); (case c13 => k_is); (case k13 => k_is); (case a14 => k_is); (case l14 => k_is); (case c14 => k_is); (case k14 => k_is); (case a15 => k_is); (case l15 => k_is); (case c15 => k_is); (case k15 => k_is); (case a16 => k_is); (case l16 => k_is); (case c16 => k_is); (case k16 => k_is); (case a17 => k_is); (case l17 => k_is); (case c17 => k_is); (case k17 => k_is); (case a18 => k_is); (case l18 => k_is); (case c18 => k_is); (case k18 => k_is); (case a19 => k_is); (case l19 => k_is); (case c19 => k_is); (case k19 => k_is); (case a20 => k_is); (case l20 => k_is); (case c20 => k_is); (case k20 => k_is); (case a21 => k_is); (case l21 => k_is); (case c21 => k_is); (case k21 => k_is); (case a22 => k_is); (case l22 => k_is); (case c22 => k_is); (case k22 => k_is); (case a23 => k_is); (case l23 => k_is); (case c23 => k_is); (case k23 => k_is); (case a24 => k_is); (case l24 => k_is); (case c24 => k_is); (case k24 => k_is); (case a25 => k_is); (case l25 => k_is); (case c25 => k_is); (case k25 => k_is); (case a26 => k_is); (case l26 => k_is); (case c26 => k_is); (case k26 => k_is); (case a27 => k_is); (case l27 => k_is); (case c27 => k_is); (case k27 => k_is); (case a28 => k_is); (case l28 => k_is); (case c28 => k_is); (case k28 => k_is); (case a29 => k_is); (case i29 => k_is); (case l29 => k_is); (case c29 => k_is); (case k29 => k_is); (case a30 => k_is); (case i30 => k_is); (case l30 => k_is); (case c30 => k_is); (case k30 => k_is); (case d30 => k_is); (case a31 => k_is); (case l31 => k_is); (case c31 => k_is); (case k31 => k_is); (case a32 => k_is); (case l32 => k_is); (case c32 => k_is); (case k32 => k_is); (case a33 => k_is); (case l33 => k_is); (case c33 => k_is); (case k33 => k_is); (case a34 => k_is); (case l34 => k_is); (case c34 => k_is); (case k34 => k_is); (case a35 => k_is); (case l35 => k_is); (case c35 => k_is); (case k35 => k_is); (case a36 => k_is); (case i36 => k_is); (case l36 => k_is); (case c36 => k_is); (case k36 => k_is); (case a37 => k_is); (case l37 => k_is); (case c37 => k_is); (case k37 => k_is); (case a38 => k_is); (case i38 => k_is); (case l38 => k_is); (case c38 => k_is); (case k38 => k_is); (case a39 => k_is); (case i39 => k_is); (case l39 => k_is); (case c39 => k_is); (case k39 => k_is); (case a40 => k_is); (case l40 => k_is); (case c40 => k_is); (case k40 => k_is); (case a41 => k_is); (case l41 => k_is); (case c41 => k_is); (case k41 => k_is); (case a42 => k_is); (case l42 => k_is); (case c42 => k_is); (case k42 => k_is); (case a43 => k_is); (case l43 => k_is); (case c43 => k_is); (case k43 => k_is); (case a44 => k_is); (case l44 => k_is); (case c44 => k_is); (case k44 => k_is); (case a45 => k_is); (case l45 => k_is); (case c45 => k_is); (case k45 => k_is); (case a46 => k_is); (case l46 => k_is); (case c46 => k_is); (case k46 => k_is); (case a47 => k_is); (case l47 => k_is); (case c47 => k_is); (case k47 => k_is); (case a48 => k_is); (case i48 => k_is); (case l48 => k_is); (case c48 => k_is); (case k48 => k_is); (case a49 => k_is); (case l49 => k_is); (case c49 => k_is); (case k49 => k_is); (case a50 => k_is); (case l50 => k_is); (case c50 => k_is); (case k50 => k_is); (case a51 => k_is); (case l51 => k_is); (case c51 => k_is); (case k51 => k_is); (case a52 => k_is); (case l52 => k_is); (case c52 => k_is); (case k52 => k_is); (case z_abs => k_is); (case z_int => k_is); (case z_range => k_is); (case z_len => k_is); (case z_tuple => k_is); (case z_isinstance => k_is); (case z_bool => k_is); (case z_list => k_is); (case z_reversed => k_is); (case z_enumerate => k_is); (case z_max => k_is); (case z_zip => k_is); (case z_all => k_is); (case z_sum => k_is); (case mk_Field => k_is); (case kp_Field => k_is); (case xx_zd => k_exc); (case xk_zd => k_is); (case xb_zd => k_is); (case xt_zd => k_is); (case xx_mal => k_exc); (case xk_mal => k_is); (case xb_mal => k_is); (case xt_mal => k_is); (case gg_MOST_MEMBERS => k_is); (case pg_Field => k_is); (case hd_Field => k_is); (case po_Field => k_is); (case sa_Field => k_is); (case na_Field_n => k_is); (case na_Field_p => k_is); (case na_Field_modulus => k_is); (case na_Field_q => k_is); (case na_Field__members => k_is); (case na_Field__powers => k_is); (case na_Field__logarithms => k_is); (case na_Field__texts => k_is); (case ed_zd => k_is); (case ss_zd_zd => k_is); (case q17 => k_is); (case p17 => rfl); (case h17 => kernel_rfl); (case u17 => kernel_rfl); (case v17 => exact km_tabs_of Y _ (by k_mem)); (case q42 => k_is); (case p42 => rfl); (case h42 => kernel_rfl); (case u42 => kernel_rfl); (case v42 => exact km_tabs_of Y _ (by k_mem)); (case hmath => exact Pf.law_true)
