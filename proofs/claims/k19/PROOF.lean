import PyProof.Rows.All
import Wide.All
import OpenK.AllK
import Wide.FinOn
import HandS.Lambda
import HandS.Nested
import HandS.ForMost
import HandS.ForExc
import HandS.Style
import HandS.Gcd
import HandS.IsInst
import HandS.Wide
import HandS.SortInts
import HandS.ExcIs
import HandS.TryMany
import HandS.ExcField
import HandS.Walk
import HandS.Zip
import HandS.TupMul
import HandS.TupAny
import HandS.RevRange
import KE.GoesMore
import HandS.Defaults
import KE.GoesZip
import KE.GoesEnum
import HandS.FStr
import HandS.Text
import HandS.DictComp
import HandS.GenList
import HandS.Comp
import HandS.Words
import HandS.CallSlots
import HandS.Deep
import HandS.Star
import HandS.ExcInit
import KE.KExcSuper
import HandS.Rev
import HandS.TupSets
import KE.KOpsOwn
import KE.KCallOwn
import KE.KNestM
import KE.KLam
import HandS.EndTab
import PySem.Challenge.RW_fieldmaps_k19_roots
set_option Elab.async false
set_option linter.all false
set_option maxRecDepth 100000
namespace Mir
open PySem PySem.Spec PyProof.Rows L2

/-! ### results of the mirrors -/
inductive Er where
  | zd | mal | refu (r : Str) | nt (i : Int)
  deriving DecidableEq
inductive R (α : Type) where
  | ok (a : α) | er (e : Er) | out
  deriving DecidableEq
@[inline] def R.bind {α β : Type} (m : R α) (f : α → R β) : R β := match m with
  | .ok a => f a
  | .er e => .er e
  | .out => .out
@[simp] theorem R.bind_ok {α β : Type} (a : α) (f : α → R β) : (R.ok a).bind f = f a := rfl
@[simp] theorem R.bind_er {α β : Type} (e : Er) (f : α → R β) : (R.er e : R α).bind f = .er e := rfl
@[simp] theorem R.bind_out {α β : Type} (f : α → R β) : (R.out : R α).bind f = .out := rfl
/-- where a test does not hold, nothing is said -/
@[irreducible] def grd (c : Prop) [Decidable c] {α : Type} (m : R α) : R α := if c then m else .out
def wp {α : Type} (m : R α) (P : α → Prop) (E : Er → Prop) : Prop := match m with
  | .ok a => P a
  | .er e => E e
  | .out => False
section
variable {α β : Type} {P : α → Prop} {Q : β → Prop} {E : Er → Prop}
theorem wp_bind {m : R α} {f : α → R β} (h : wp (m.bind f) Q E) : wp m (fun a => wp (f a) Q E) E := by
  cases m <;> exact h
theorem wp_bind' {m : R α} {f : α → R β} (h : wp m (fun a => wp (f a) Q E) E) : wp (m.bind f) Q E := by
  cases m <;> exact h
theorem wp_imp {m : R α} {P' : α → Prop} {E' : Er → Prop} (h : wp m P E) (k : ∀ a, P a → P' a) (e : ∀ x, E x → E' x) : wp m P' E' := by
  cases m with
  | ok a => exact k a h
  | er x => exact e x h
  | out => exact h
theorem wp_grd {c : Prop} [Decidable c] {m : R α} (h : wp (grd c m) P E) : c ∧ wp m P E := by
  unfold grd at h
  by_cases hc : c
  · rw [if_pos hc] at h
    exact ⟨hc, h⟩
  · rw [if_neg hc] at h
    exact h.elim
theorem wp_ite {c : Prop} [Decidable c] {m n : R α} (h : wp (if c then m else n) P E) : (c → wp m P E) ∧ (¬ c → wp n P E) :=
  ⟨fun hc => by rw [if_pos hc] at h; exact h, fun hc => by rw [if_neg hc] at h; exact h⟩
end
/-! ### loops -/
def foldR {σ α : Type} (f : σ → α → R σ) : σ → List α → R σ
  | s, [] => .ok s
  | s, x :: xs => (f s x).bind fun s' => foldR f s' xs
/-- a turn's end -/
inductive Lp (σ ρ : Type) where
  | nx (s : σ) | bk (s : σ) | rt (r : ρ)
  deriving DecidableEq
inductive Le (σ ρ : Type) where
  | dn (s : σ) | rt (r : ρ)
  deriving DecidableEq
def loopR {σ ρ α : Type} (f : σ → α → R (Lp σ ρ)) : σ → List α → R (Le σ ρ)
  | s, [] => .ok (.dn s)
  | s, x :: xs => (f s x).bind fun o => match o with
    | .nx s' => loopR f s' xs
    | .bk s' => .ok (.dn s')
    | .rt r => .ok (.rt r)
def whileR {σ : Type} (c : σ → R Bool) (f : σ → R σ) : Nat → σ → R σ
  | 0, _ => .out
  | n + 1, s => (c s).bind fun b => if b = true then (f s).bind fun s' => whileR c f n s' else .ok s
def whileL {σ ρ : Type} (c : σ → R Bool) (f : σ → R (Lp σ ρ)) : Nat → σ → R (Le σ ρ)
  | 0, _ => .out
  | n + 1, s => (c s).bind fun b => if b = true then (f s).bind fun o => match o with
    | .nx s' => whileL c f n s'
    | .bk s' => .ok (.dn s')
    | .rt r => .ok (.rt r) else .ok (.dn s)
/-- behind a loop that may be left by return -/
def Le.thn {σ ρ τ : Type} (o : Le σ ρ) (k : σ → R τ) (ret : ρ → R τ) : R τ := match o with
  | .dn s => k s
  | .rt r => ret r
/-- what is wanted behind a turn -/
def lpP {σ ρ : Type} (nx bk : σ → Prop) (rt : ρ → Prop) : Lp σ ρ → Prop
  | .nx s => nx s
  | .bk s => bk s
  | .rt r => rt r
def leP {σ ρ : Type} (dn : σ → Prop) (rt : ρ → Prop) : Le σ ρ → Prop
  | .dn s => dn s
  | .rt r => rt r
/-- the ints lo, lo + 1, .. -/
def rng (lo : Int) : Nat → List Int
  | 0 => []
  | n + 1 => lo :: rng (lo + 1) n
theorem rng_length (lo : Int) (n : Nat) : (rng lo n).length = n := by
  induction n generalizing lo with
  | zero => rfl
  | succ n ih => exact congrArg Nat.succ (ih (lo + 1))
theorem rng_drop (lo : Int) (n i : Nat) (h : i < n) : (rng lo n).drop i = (lo + i) :: (rng lo n).drop (i + 1) := by
  induction n generalizing lo i with
  | zero => omega
  | succ n ih =>
    cases i with
    | zero =>
      show lo :: rng (lo + 1) n = (lo + ((0 : Nat) : Int)) :: rng (lo + 1) n
      rw [show lo + ((0 : Nat) : Int) = lo by omega]
    | succ i =>
      have := ih (lo + 1) i (by omega)
      show (rng (lo + 1) n).drop i = (lo + ((i + 1 : Nat) : Int)) :: (rng (lo + 1) n).drop (i + 1)
      rw [this]
      rw [show lo + 1 + (i : Int) = lo + ((i + 1 : Nat) : Int) by omega]

/-! ### ints -/
def pabs (i : Int) : Int := if i < 0 then -i else i
/-! ### heaps -/
/-- how the lambdas of a program are called, by their places; which attributes are the last that a class gives its objects -/
class Nm where
  nm : Nat → Nat → Str
  last : Str → Bool
variable [Nm]
open Classical in
/-- the kinds of objects that change; an instance changes till it has its last attribute -/
noncomputable def kd : HO → Nat
  | .lst _ => 1
  | .dK _ => 2
  | .dT _ => 3
  | .set _ _ => 4
  | .tbl _ => 9
  | .ext φ => if (∃ c q, HO.ext φ = LamX.CodeO c q) then 0 else 6
  | .ins _ _ fs => match fs.getLast? with
    | some (f, _) => if Nm.last f then 0 else 5
    | none => 5
  | _ => 0
theorem kd_code {c : Addr} {q : Str} : kd (LamX.CodeO c q) = 0 := by
  unfold kd LamX.CodeO
  exact if_pos ⟨c, q, rfl⟩
/-- all is as it was, but what changes at A; that is still of its kind -/
structure Gr (A : List Addr) (H H' : Hp) : Prop where
  ob : ∀ b o, H b = some o → ∃ o', H' b = some o' ∧ (o' = o ∨ (b ∈ A ∧ kd o ≠ 0 ∧ kd o' = kd o) ∨ (kd o = 9 ∧ kd o' = 9))
  tb : ∀ P, NdefX.TabN H P Nm.nm → NdefX.TabN H' P Nm.nm
theorem Gr.to {A : List Addr} {H H' : Hp} {b : Addr} {o : HO} (g : Gr A H H') (h : H b = some o) (n : b ∈ A → kd o = 0) (t : kd o ≠ 9) : H' b = some o := by
  obtain ⟨o', h1, h2⟩ := g.ob b o h
  rcases h2 with rfl | ⟨m, k, _⟩ | ⟨k, _⟩
  · exact h1
  · exact absurd (n m) k
  · exact absurd k t
theorem Gr.refl {A : List Addr} (H : Hp) : Gr A H H := ⟨fun _ o h => ⟨o, h, .inl rfl⟩, fun _ h => h⟩
theorem gr_two {A A0 : List Addr} {c : Addr} {o o1 o2 : HO} (n : c ∈ A → c ∈ A0) (e1 : o1 = o ∨ (c ∈ A0 ∧ kd o ≠ 0 ∧ kd o1 = kd o) ∨ (kd o = 9 ∧ kd o1 = 9)) (e2 : o2 = o1 ∨ (c ∈ A ∧ kd o1 ≠ 0 ∧ kd o2 = kd o1) ∨ (kd o1 = 9 ∧ kd o2 = 9)) : o2 = o ∨ (c ∈ A0 ∧ kd o ≠ 0 ∧ kd o2 = kd o) ∨ (kd o = 9 ∧ kd o2 = 9) := by
  rcases e1 with rfl | ⟨m, k, q⟩ | ⟨k, q⟩
  · rcases e2 with rfl | ⟨m, k, q⟩ | z
    · exact .inl rfl
    · exact .inr (.inl ⟨n m, k, q⟩)
    · exact .inr (.inr z)
  · rcases e2 with rfl | ⟨_, _, q2⟩ | ⟨k1, k2⟩
    · exact .inr (.inl ⟨m, k, q⟩)
    · exact .inr (.inl ⟨m, k, q2.trans q⟩)
    · exact .inr (.inr ⟨q.symm.trans k1, k2⟩)
  · rcases e2 with rfl | ⟨_, _, q2⟩ | ⟨_, k2⟩
    · exact .inr (.inr ⟨k, q⟩)
    · exact .inr (.inr ⟨k, q2.trans q⟩)
    · exact .inr (.inr ⟨k, k2⟩)
theorem Gr.trans {A : List Addr} {H H1 H2 : Hp} (a : Gr A H H1) (b : Gr A H1 H2) : Gr A H H2 := ⟨fun c o h => by
  obtain ⟨o1, h1, e1⟩ := a.ob c o h
  obtain ⟨o2, h2, e2⟩ := b.ob c o1 h1
  exact ⟨o2, h2, gr_two id e1 e2⟩, fun P h => b.tb P (a.tb P h)⟩
theorem Gr.same {H H1 : Hp} (a : Same H H1) : Gr [] H H1 := ⟨fun c o h => ⟨o, a c o h, .inl rfl⟩, fun _ h => h.ext a⟩
theorem Gr.mono {A B : List Addr} {H H1 : Hp} (a : Gr A H H1) (s : ∀ x ∈ A, x ∈ B) : Gr B H H1 := ⟨fun c o h =>
  let ⟨o', h1, h2⟩ := a.ob c o h
  ⟨o', h1, h2.imp id fun z => z.imp (fun ⟨m, k⟩ => ⟨s c m, k⟩) id⟩, a.tb⟩
theorem Gr.of0 {B : List Addr} {H H1 : Hp} (a : Gr [] H H1) : Gr B H H1 := a.mono fun _ z => absurd z (by simp)
theorem Gr.of0' {B : List Addr} {H H1 H2 : Hp} (a : Gr B H H1) (b : Gr [] H1 H2) : Gr B H H2 := a.trans b.of0
/-- some changed objects at once; those that are new since H don't count -/
theorem Gr.many {A A0 : List Addr} {H0 H H' : Hp} (a : Gr A0 H0 H) (n : ∀ p ∈ A, p ∈ A0 ∨ H0 p = none) (b : Gr A H H') : Gr A0 H0 H' := ⟨fun c o h => by
  obtain ⟨o1, h1, e1⟩ := a.ob c o h
  obtain ⟨o2, h2, e2⟩ := b.ob c o1 h1
  exact ⟨o2, h2, gr_two (fun m => (n c m).elim id fun z => by
      rw [z] at h
      cases h) e1 e2⟩, fun P h => b.tb P (a.tb P h)⟩
/-- a change at an address that is new since H -/
theorem Gr.loc {A : List Addr} {p : Addr} {H H1 H2 : Hp} (a : Gr A H H1) (n : H p = none) (b : Gr [p] H1 H2) : Gr A H H2 := a.many (fun q m => .inr (by
  have e : q = p := by simpa using m
  exact e ▸ n)) b
theorem Gr.at1 {A : List Addr} {p : Addr} {H H1 H2 : Hp} (a : Gr A H H1) (m : p ∈ A) (b : Gr [p] H1 H2) : Gr A H H2 := a.trans (b.mono fun x z => by
  have e : x = p := by simpa using z
  exact e ▸ m)
theorem tabN_upd {nm : Nat → Nat → Str} {H : Hp} {p P : Addr} {o : HO} (n : ∀ u, H p = some u → (∀ ps, u ≠ .tbl ps) ∧ ∀ c q, u ≠ LamX.CodeO c q) (h : NdefX.TabN H P nm) : NdefX.TabN (upd H p o) P nm := by
  obtain ⟨ps, h1, h2, h3⟩ := h
  refine ⟨ps, ?_, h2, fun pos cv hc => ?_⟩
  · rw [upd_ne fun z => ?_]
    · exact h1
    · subst z
      exact (n _ h1).1 ps rfl
  · obtain ⟨c, e1, e2⟩ := h3 pos cv hc
    refine ⟨c, e1, ?_⟩
    rw [upd_ne fun z => ?_]
    · exact e2
    · subst z
      exact (n _ e2).2 c _ rfl
theorem Gr.new {A : List Addr} {H : Hp} {p : Addr} {o : HO} (n : H p = none) : Gr A H (upd H p o) := ⟨fun c u h => ⟨u, by
  rw [upd_ne (ne_of_none h n)]
  exact h, .inl rfl⟩, fun P h => tabN_upd (fun u z => by
    rw [n] at z
    cases z) h⟩
theorem Gr.setK {H : Hp} {p : Addr} {o o' : HO} (h : H p = some o') (k : kd o' ≠ 0) (t : kd o' ≠ 9) (e : kd o = kd o') : Gr [p] H (upd H p o) := ⟨fun c u q => by
  by_cases z : c = p
  · subst z
    rw [h] at q
    cases q
    exact ⟨o, upd_same, .inr (.inl ⟨by simp, k, e⟩)⟩
  · exact ⟨u, by rw [upd_ne z]; exact q, .inl rfl⟩, fun P hT => tabN_upd (fun u z => by
    rw [h] at z
    cases z
    refine ⟨fun ps e => ?_, fun c q e => ?_⟩
    · subst e
      exact t rfl
    · subst e
      exact k kd_code) hT⟩
theorem Gr.set {H : Hp} {p : Addr} {ys xs : List V} (h : H p = some (.lst xs)) : Gr [p] H (upd H p (.lst ys)) := Gr.setK h (by show 1 ≠ 0; decide) (by show 1 ≠ 9; decide) rfl
theorem Gr.free {A : List Addr} {H H' : Hp} (e : Gr A H H') {l : Addr} (h : H' l = Option.none) : H l = Option.none := by
  cases r : H l with
  | none => rfl
  | some o =>
    obtain ⟨o', h1, _⟩ := e.ob l o r
    rw [h] at h1
    cases h1
/-! ### what stands for a datum -/
abbrev Rp (α : Type) := Hp → α → V → Prop
/-- what never changes is as it was -/
def Im (H H' : Hp) : Prop := ∀ b o, H b = some o → kd o = 0 → H' b = some o
theorem Gr.im {A : List Addr} {H H' : Hp} (g : Gr A H H') : Im H H' := fun _ _ h k => g.to h (fun _ => k) (by rw [k]; decide)
class Imm {α : Type} (r : Rp α) : Prop where
  im : ∀ {H H' : Hp} {x : α} {v : V}, Im H H' → r H x v → r H' x v
theorem Imm.mono {α : Type} {r : Rp α} [Imm r] {A : List Addr} {H H' : Hp} {x : α} {v : V} (g : Gr A H H') (h : r H x v) : r H' x v := Imm.im g.im h
def rI : Rp Int := fun _ i v => v = .int i
def rB : Rp Bool := fun _ b v => v = .bl b
def rS : Rp Str := fun _ x v => v = .str x
def rN : Rp Unit := fun _ _ v => v = .non
instance : Imm rI := ⟨fun _ h => h⟩
instance : Imm rB := ⟨fun _ h => h⟩
instance : Imm rS := ⟨fun _ h => h⟩
instance : Imm rN := ⟨fun _ h => h⟩
def rO {α : Type} (r : Rp α) : Rp (Option α) := fun H o v => match o with
  | none => v = .non
  | some a => v ≠ .non ∧ r H a v
instance {α : Type} {r : Rp α} [Imm r] : Imm (rO r) := ⟨fun {H H' x v} g h => by
  cases x with
  | none => exact h
  | some a => exact ⟨h.1, Imm.im g h.2⟩⟩
theorem Paired.im {α : Type} {r : Rp α} [Imm r] {H H' : Hp} {xs : List α} {vs : List V} (g : Im H H') (h : Paired (r H) xs vs) : Paired (r H') xs vs := Paired.mapP h fun _ _ q => Imm.im g q
theorem Im.tup {K : PySem.W.Frag} {H H' : Hp} {a : Addr} {xs : List V} (g : Im H H') (h : SqT K H a xs) : SqT K H' a xs := by
  rcases h with (h | ⟨o, h⟩) | h
  · exact .inl (.inl (g _ _ h rfl))
  · exact .inl (.inr ⟨o, g _ _ h rfl⟩)
  · exact .inr h
theorem Paired.imm {α : Type} {r : Rp α} [Imm r] {A : List Addr} {H H' : Hp} {xs : List α} {vs : List V} (g : Gr A H H') (h : Paired (r H) xs vs) : Paired (r H') xs vs := Paired.mapP h fun _ _ q => Imm.mono g q
def Ls {α : Type} (r : Rp α) (H : Hp) (a : Addr) (xs : List α) : Prop := ∃ vs, H a = some (.lst vs) ∧ Paired (r H) xs vs
def Lq {α : Type} (K : PySem.W.Frag) (r : Rp α) (H : Hp) (a : Addr) (xs : List α) : Prop := ∃ vs, SqL K H a vs ∧ Paired (r H) xs vs
def Tq {α : Type} (K : PySem.W.Frag) (r : Rp α) (H : Hp) (a : Addr) (xs : List α) : Prop := ∃ vs, SqT K H a vs ∧ Paired (r H) xs vs
def rT {α : Type} (K : PySem.W.Frag) (r : Rp α) : Rp (List α) := fun H xs v => ∃ a, v = .ref a ∧ Tq K r H a xs
def rP {α β : Type} (K : PySem.W.Frag) (r : Rp α) (s : Rp β) : Rp (α × β) := fun H p v => ∃ a x y, v = .ref a ∧ SqT K H a [x, y] ∧ r H p.1 x ∧ s H p.2 y
def rP3 {α β γ : Type} (K : PySem.W.Frag) (r : Rp α) (s : Rp β) (t : Rp γ) : Rp (α × β × γ) := fun H p v => ∃ a x y z, v = .ref a ∧ SqT K H a [x, y, z] ∧ r H p.1 x ∧ s H p.2.1 y ∧ t H p.2.2 z
theorem Gr.tup {K : PySem.W.Frag} {A : List Addr} {H H' : Hp} {a : Addr} {xs : List V} (g : Gr A H H') (h : SqT K H a xs) : SqT K H' a xs := by
  rcases h with (h | ⟨o, h⟩) | h
  · exact .inl (.inl (g.to h (fun _ => rfl) nofun))
  · exact .inl (.inr ⟨o, g.to h (fun _ => rfl) nofun⟩)
  · exact .inr h
theorem Gr.lst {K : PySem.W.Frag} {A : List Addr} {H H' : Hp} {a : Addr} {xs : List V} (g : Gr A H H') (n : a ∉ A) (h : SqL K H a xs) : SqL K H' a xs := by
  rcases h with (h | ⟨o, h⟩) | h
  · exact .inl (.inl (g.to h (fun m => absurd m n) nofun))
  · exact .inl (.inr ⟨o, g.to h (fun _ => rfl) nofun⟩)
  · exact .inr h
section
variable {α β γ : Type} {K : PySem.W.Frag} {r : Rp α} {s : Rp β} {t : Rp γ} {A : List Addr} {H H' : Hp} {a p : Addr} {xs : List α}
theorem Tq.mono [Imm r] (g : Gr A H H') (h : Tq K r H a xs) : Tq K r H' a xs := let ⟨vs, h1, h2⟩ := h; ⟨vs, g.tup h1, Paired.imm g h2⟩
instance [Imm r] : Imm (rT K r) := ⟨fun g ⟨a, e, vs, h1, h2⟩ => ⟨a, e, vs, g.tup h1, Paired.im g h2⟩⟩
instance [Imm r] [Imm s] : Imm (rP K r s) := ⟨fun g ⟨a, x, y, e, h, h1, h2⟩ => ⟨a, x, y, e, g.tup h, Imm.im g h1, Imm.im g h2⟩⟩
instance [Imm r] [Imm s] [Imm t] : Imm (rP3 K r s t) := ⟨fun g ⟨a, x, y, z, e, h, h1, h2, h3⟩ => ⟨a, x, y, z, e, g.tup h, Imm.im g h1, Imm.im g h2, Imm.im g h3⟩⟩
theorem Ls.q (h : Ls r H a xs) : Lq K r H a xs := let ⟨vs, h1, h2⟩ := h; ⟨vs, SqL.of h1, h2⟩
theorem Ls.g0 [Imm r] (g : Gr [] H H') (h : Ls r H a xs) : Ls r H' a xs := let ⟨vs, h1, h2⟩ := h; ⟨vs, g.to h1 (fun m => absurd m (by simp)) nofun, Paired.imm g h2⟩
theorem Ls.g1 [Imm r] (g : Gr [p] H H') (n : a ≠ p) (h : Ls r H a xs) : Ls r H' a xs := let ⟨vs, h1, h2⟩ := h; ⟨vs, g.to h1 (fun m => absurd (by simpa using m) n) nofun, Paired.imm g h2⟩
theorem Ls.gA [Imm r] (g : Gr A H H') (n : a ∉ A) (h : Ls r H a xs) : Ls r H' a xs := let ⟨vs, h1, h2⟩ := h; ⟨vs, g.to h1 (fun m => absurd m n) nofun, Paired.imm g h2⟩
theorem Lq.g0 [Imm r] (g : Gr [] H H') (h : Lq K r H a xs) : Lq K r H' a xs := let ⟨vs, h1, h2⟩ := h; ⟨vs, g.lst (by simp) h1, Paired.imm g h2⟩
theorem Lq.gA [Imm r] (g : Gr A H H') (n : a ∉ A) (h : Lq K r H a xs) : Lq K r H' a xs := let ⟨vs, h1, h2⟩ := h; ⟨vs, g.lst n h1, Paired.imm g h2⟩
theorem Ls.ne (h : Ls r H a xs) (n : H p = none) : a ≠ p := let ⟨_, h1, _⟩ := h; ne_of_none h1 n
theorem Ls.some (h : Ls r H a xs) : ∃ vs, H a = some (.lst vs) := let ⟨vs, h1, _⟩ := h; ⟨vs, h1⟩
/-! ### displays, items, changes -/
variable {Q : VK} {E : Er → Prop}
/-- a new tuple, a new list -/
def aTup (xs : List V) (H : Hp) (Q : VK) : Prop := xs.length ≤ sizeLine ∧ ∀ p, H p = none → Q (.ref p) (upd H p (.tup xs))
def aLst (xs : List V) (H : Hp) (Q : VK) : Prop := xs.length ≤ sizeLine ∧ ∀ p, H p = none → Q (.ref p) (upd H p (.lst xs))
/-- a call's reading, held together -/
def ap3 (r : List V → Hp → VK → Prop) (vs : List V) (H : Hp) (Q : VK) : Prop := r vs H Q
theorem mk_P [Imm r] [Imm s] {x y : V} {a : α} {b : β} (hx : r H a x) (hy : s H b y) (q : ∀ v H', Gr [] H H' → rP K r s H' (a, b) v → Q v H') : aTup [x, y] H Q :=
  ⟨by show 2 ≤ sizeLine; decide, fun p n => q _ _ (Gr.new n) ⟨p, x, y, rfl, SqT.of upd_same, Imm.mono (Gr.new (A := []) n) hx, Imm.mono (Gr.new (A := []) n) hy⟩⟩
theorem mk_P3 [Imm r] [Imm s] [Imm t] {x y z : V} {a : α} {b : β} {c : γ} (hx : r H a x) (hy : s H b y) (hz : t H c z) (q : ∀ v H', Gr [] H H' → rP3 K r s t H' (a, b, c) v → Q v H') : aTup [x, y, z] H Q :=
  ⟨by show 3 ≤ sizeLine; decide, fun p n => q _ _ (Gr.new n) ⟨p, x, y, z, rfl, SqT.of upd_same, Imm.mono (Gr.new (A := []) n) hx, Imm.mono (Gr.new (A := []) n) hy, Imm.mono (Gr.new (A := []) n) hz⟩⟩
theorem mk_T [Imm r] {vs : List V} (h : Paired (r H) xs vs) (l : vs.length ≤ sizeLine) (q : ∀ v H', Gr [] H H' → rT K r H' xs v → Q v H') : aTup vs H Q :=
  ⟨l, fun p n => q _ _ (Gr.new n) ⟨p, rfl, vs, SqT.of upd_same, Paired.imm (Gr.new (A := []) n) h⟩⟩
theorem mk_L [Imm r] {vs : List V} (h : Paired (r H) xs vs) (l : vs.length ≤ sizeLine) (q : ∀ p H', H p = none → Gr [] H H' → Ls r H' p xs → Q (.ref p) H') : aLst vs H Q :=
  ⟨l, fun p n => q _ _ n (Gr.new n) ⟨vs, upd_same, Paired.imm (Gr.new (A := []) n) h⟩⟩
def lenOk {α : Type} (xs : List α) : Prop := xs.length ≤ sizeLine
instance {α : Type} (xs : List α) : Decidable (lenOk xs) := inferInstanceAs (Decidable (_ ≤ _))
def lenLt {α : Type} (xs : List α) : Prop := xs.length < sizeLine
instance {α : Type} (xs : List α) : Decidable (lenLt xs) := inferInstanceAs (Decidable (_ < _))
theorem Paired.app {r : α → V → Prop} : ∀ {xs ys : List α} {vs ws : List V}, Paired r xs vs → Paired r ys ws → Paired r (xs ++ ys) (vs ++ ws)
  | _, _, _, _, .nil, s => s
  | _, _, _, _, .cons r t, s => .cons r (Paired.app t s)
theorem rd_append [Imm r] {y : V} {x : α} (h : Ls r H a xs) (hy : r H x y) (l : lenLt xs) (q : ∀ H', Gr [a] H H' → Ls r H' a (xs ++ [x]) → Q .non H') : rAppend (.ref a) [y] H Q := by
  obtain ⟨vs, h1, h2⟩ := h
  refine ⟨a, vs, y, rfl, rfl, h1, by rw [← Paired.length h2]; exact l, q _ (Gr.set h1) ⟨_, upd_same, ?_⟩⟩
  exact Paired.app (Paired.imm (Gr.set h1) h2) (.cons (Imm.mono (Gr.set h1) hy) .nil)
/-- an item by its place -/
def getL {α : Type} (xs : List α) (i : Int) : R α := match atI xs i with
  | some x => .ok x
  | none => .out
theorem Paired.at {r : α → V → Prop} : ∀ {xs : List α} {vs : List V} {i : Nat} {x : α}, Paired r xs vs → xs[i]? = some x → ∃ v, vs[i]? = some v ∧ r x v
  | _, _, _, _, .nil, e => by simp at e
  | _, _, 0, _, .cons h _, e => by
    simp at e
    subst e
    exact ⟨_, rfl, h⟩
  | _, _, i + 1, _, .cons _ t, e => by
    obtain ⟨v, h1, h2⟩ := Paired.at (i := i) t (by simpa using e)
    exact ⟨v, by simpa using h1, h2⟩
theorem getL_at {r : α → V → Prop} {vs : List V} {i : Int} {Z : α → Prop} (h : Paired r xs vs) (hm : wp (getL xs i) Z E) : ∃ x v, atI vs i = some v ∧ r x v ∧ Z x := by
  unfold getL at hm
  cases e : atI xs i with
  | none =>
    rw [e] at hm
    exact hm.elim
  | some x =>
    rw [e] at hm
    unfold atI at e
    cases e2 : ixN xs.length i with
    | none =>
      rw [e2] at e
      cases e
    | some j =>
      rw [e2] at e
      obtain ⟨v, h1, h2⟩ := Paired.at h (show xs[j]? = some x from e)
      refine ⟨x, v, ?_, h2, hm⟩
      unfold atI
      rw [← Paired.length h, e2]
      exact h1
theorem ix_L {i : Int} {Z : α → Prop} (h : Lq K r H a xs) (hm : wp (getL xs i) Z E) (q : ∀ x v, r H x v → Z x → Q v H) : rIxL K (.ref a) (.int i) H Q := by
  obtain ⟨vs, h1, h2⟩ := h
  obtain ⟨x, v, e, hr, hz⟩ := getL_at h2 hm
  exact ⟨a, vs, i, v, rfl, rfl, h1, e, q x v hr hz⟩
theorem ix_T {i : Int} {Z : α → Prop} {v : V} (h : rT K r H xs v) (hm : wp (getL xs i) Z E) (q : ∀ x v, r H x v → Z x → Q v H) : rIxT K v (.int i) H Q := by
  obtain ⟨a, rfl, vs, h1, h2⟩ := h
  obtain ⟨x, v, e, hr, hz⟩ := getL_at h2 hm
  exact ⟨a, vs, i, v, rfl, rfl, h1, e, q x v hr hz⟩
/-- an item changed -/
def setL {α : Type} (xs : List α) (i : Int) (x : α) : R (List α) := match ixN xs.length i with
  | some j => .ok (xs.set j x)
  | none => .out
theorem Paired.set {r : α → V → Prop} {x : α} {v : V} (h : r x v) : ∀ {xs : List α} {vs : List V} (i : Nat), Paired r xs vs → Paired r (xs.set i x) (vs.set i v)
  | _, _, _, .nil => .nil
  | _, _, 0, .cons _ t => .cons h t
  | _, _, i + 1, .cons q t => .cons q (Paired.set h i t)
theorem rd_set [Imm r] {i : Int} {y : V} {x : α} {Z : List α → Prop} {Q : Hp → Prop} (h : Ls r H a xs) (hy : r H x y) (hm : wp (setL xs i x) Z E) (q : ∀ ys H', Gr [a] H H' → Ls r H' a ys → Z ys → Q H') : rSetL (.ref a) (.int i) y H Q := by
  obtain ⟨vs, h1, h2⟩ := h
  unfold setL at hm
  cases e : ixN xs.length i with
  | none =>
    rw [e] at hm
    exact hm.elim
  | some j =>
    rw [e] at hm
    exact ⟨a, vs, i, j, rfl, rfl, h1, by rw [← Paired.length h2]; exact e, q _ _ (Gr.set h1) ⟨_, upd_same, Paired.set (Imm.mono (Gr.set h1) hy) j (Paired.imm (Gr.set h1) h2)⟩ hm⟩
theorem cat_L [Imm r] {b : Addr} {ys : List α} (h : Ls r H a xs) (h' : Ls r H b ys) (l : lenOk (xs ++ ys)) (q : ∀ p H', H p = none → Gr [] H H' → Ls r H' p (xs ++ ys) → Q (.ref p) H') : rCat (.ref a) (.ref b) H Q := by
  obtain ⟨vs, h1, h2⟩ := h
  obtain ⟨ws, h3, h4⟩ := h'
  refine ⟨a, b, vs, ws, rfl, rfl, h1, h3, ?_, fun p n => q _ _ n (Gr.new n) ⟨_, upd_same, Paired.app (Paired.imm (Gr.new (A := []) n) h2) (Paired.imm (Gr.new (A := []) n) h4)⟩⟩
  rw [← Paired.length h2, ← Paired.length h4, ← List.length_append]
  exact l
theorem len_L (h : Lq K r H a xs) (q : Q (.int xs.length) H) : ap3 (fun vs H Q => ∃ p ys, vs = [V.ref p] ∧ (SqL K H p ys ∨ SqT K H p ys) ∧ Q (.int ys.length) H) [.ref a] H Q := by
  obtain ⟨vs, h1, h2⟩ := h
  exact ⟨a, vs, rfl, .inl h1, by rw [← Paired.length h2]; exact q⟩
theorem len_T {v : V} (h : rT K r H xs v) (q : Q (.int xs.length) H) : ap3 (fun vs H Q => ∃ p ys, vs = [V.ref p] ∧ (SqL K H p ys ∨ SqT K H p ys) ∧ Q (.int ys.length) H) [v] H Q := by
  obtain ⟨a, rfl, vs, h1, h2⟩ := h
  exact ⟨a, vs, rfl, .inr h1, by rw [← Paired.length h2]; exact q⟩
theorem tup_of_L [Imm r] (h : Lq K r H a xs) (q : ∀ v H', Gr [] H H' → rT K r H' xs v → Q v H') : ap3 (fun vs H Q => ∃ p ys, vs = [V.ref p] ∧ ((SqL K H p ys ∧ ∀ l, H l = none → Q (.ref l) (upd H l (.tup ys))) ∨ (SqT K H p ys ∧ Q (.ref p) H))) [.ref a] H Q := by
  obtain ⟨vs, h1, h2⟩ := h
  exact ⟨a, vs, rfl, .inl ⟨h1, fun l n => q _ _ (Gr.new n) ⟨l, rfl, vs, SqT.of upd_same, Paired.imm (Gr.new (A := []) n) h2⟩⟩⟩
theorem lst_of_L [Imm r] (h : Lq K r H a xs) (q : ∀ p H', H p = none → Gr [] H H' → Ls r H' p xs → Q (.ref p) H') : ap3 (fun vs H Q => ∃ p ys, vs = [V.ref p] ∧ (SqL K H p ys ∨ SqT K H p ys) ∧ ∀ l, H l = none → Q (.ref l) (upd H l (.lst ys))) [.ref a] H Q := by
  obtain ⟨vs, h1, h2⟩ := h
  exact ⟨a, vs, rfl, .inl h1, fun l n => q _ _ n (Gr.new n) ⟨vs, upd_same, Paired.imm (Gr.new (A := []) n) h2⟩⟩
theorem lst_of_T [Imm r] {v : V} (h : rT K r H xs v) (q : ∀ p H', H p = none → Gr [] H H' → Ls r H' p xs → Q (.ref p) H') : ap3 (fun vs H Q => ∃ p ys, vs = [V.ref p] ∧ (SqL K H p ys ∨ SqT K H p ys) ∧ ∀ l, H l = none → Q (.ref l) (upd H l (.lst ys))) [v] H Q := by
  obtain ⟨a, rfl, vs, h1, h2⟩ := h
  exact ⟨a, vs, rfl, .inr h1, fun l n => q _ _ n (Gr.new n) ⟨vs, upd_same, Paired.imm (Gr.new (A := []) n) h2⟩⟩
theorem Paired.take {r : α → V → Prop} : ∀ {xs : List α} {vs : List V} (n : Nat), Paired r xs vs → Paired r (xs.take n) (vs.take n)
  | _, _, 0, _ => .nil
  | _, _, _ + 1, .nil => .nil
  | _, _, n + 1, .cons h t => .cons h (Paired.take n t)
theorem Paired.drop {r : α → V → Prop} : ∀ {xs : List α} {vs : List V} (n : Nat), Paired r xs vs → Paired r (xs.drop n) (vs.drop n)
  | _, _, 0, h => h
  | _, _, _ + 1, .nil => .nil
  | _, _, n + 1, .cons _ t => Paired.drop n t
def cutT {α : Type} (xs : List α) (lo hi : Option Int) : List α := (xs.drop (HT.sIx xs.length 0 lo)).take (HT.sIx xs.length xs.length hi - HT.sIx xs.length 0 lo)
theorem cut_L [Imm r] {lo hi : Option Int} (h : Lq K r H a xs) (q : ∀ p H', H p = none → Gr [] H H' → Ls r H' p (cutT xs lo hi) → Q (.ref p) H') : rSlL K (.ref a) lo hi H Q := by
  obtain ⟨vs, h1, h2⟩ := h
  refine ⟨a, vs, rfl, h1, fun p n => q _ _ n (Gr.new n) ⟨_, upd_same, Paired.imm (Gr.new (A := []) n) ?_⟩⟩
  unfold cutT cutV
  rw [← Paired.length h2]
  exact Paired.take _ (Paired.drop _ h2)
theorem ints_of {ns : List Int} {vs : List V} (h : Paired (rI H) ns vs) : vs = ns.map V.int := by
  induction h with
  | nil => rfl
  | cons h _ ih => rw [ih, show _ = V.int _ from h] <;> rfl
theorem of_ints {ns : List Int} : Paired (rI H) ns (ns.map V.int) := by
  induction ns with
  | nil => exact .nil
  | cons n ns ih => exact .cons rfl ih
def isort (ns : List Int) : List Int := ns.mergeSort fun a b => decide (a ≤ b)
theorem sort_eq {l m : List Int} (p : l.Perm m) (a : l.Pairwise (· ≤ ·)) (b : m.Pairwise (· ≤ ·)) : l = m := p.eq_of_pairwise (fun x y _ _ h1 h2 => by omega) a b
theorem isort_perm (ns : List Int) : (isort ns).Perm ns := List.mergeSort_perm ns _
theorem isort_le (ns : List Int) : (isort ns).Pairwise (· ≤ ·) := by
  have h := List.pairwise_mergeSort (le := fun a b : Int => decide (a ≤ b)) (fun a b c h1 h2 => by simp at *; omega) (fun a b => by simp; omega) ns
  exact h.imp fun h => by simpa using h
end

/-! ### turns of loops -/
section
variable {σt ρ α : Type} {E : Er → Prop} {g : TG} {tb : TS} {D : Ends} {σ : L2.St} {H : Hp} {K : PySem.W.Frag} {a : Addr} {lo : Int} {n : Nat} {r : Rp α} {xs : List α} {s0 : σt}
theorem Paired.get2 {r : α → V → Prop} : ∀ {l₁ : List α} {l₂ : List V} {i : Nat} {v : V}, Paired r l₁ l₂ → l₂[i]? = some v → ∀ h : i < l₁.length, r l₁[i] v
  | _, _, _, _, .nil, _, h => absurd h (Nat.not_lt_zero _)
  | _, _, 0, _, .cons p _, e, _ => Option.some.inj e ▸ p
  | _, _, i + 1, _, .cons _ t, e, h => Paired.get2 (i := i) t e (Nat.lt_of_succ_lt_succ h)
theorem foldR_step {f : σt → α → R σt} {s : σt} {i : Nat} (h : i < xs.length) {P : σt → Prop} (hw : wp (foldR f s (xs.drop i)) P E) : wp (f s xs[i]) (fun s' => wp (foldR f s' (xs.drop (i + 1))) P E) E := by
  rw [List.drop_eq_getElem_cons h] at hw
  exact wp_bind (m := f s xs[i]) (f := fun s' => foldR f s' (xs.drop (i + 1))) hw
theorem foldR_end {f : σt → α → R σt} {s : σt} {i : Nat} (h : xs.length ≤ i) {P : σt → Prop} (hw : wp (foldR f s (xs.drop i)) P E) : P s := by
  rw [List.drop_of_length_le h] at hw
  exact hw
theorem loopR_step {f : σt → α → R (Lp σt ρ)} {s : σt} {i : Nat} (h : i < xs.length) {dn : σt → Prop} {rt : ρ → Prop} (hw : wp (loopR f s (xs.drop i)) (leP dn rt) E) : wp (f s xs[i]) (lpP (fun s' => wp (loopR f s' (xs.drop (i + 1))) (leP dn rt) E) dn rt) E := by
  rw [List.drop_eq_getElem_cons h] at hw
  have hw := wp_bind (m := f s xs[i]) (f := fun o => match o with
    | .nx s' => loopR f s' (xs.drop (i + 1))
    | .bk s' => .ok (.dn s')
    | .rt r => .ok (.rt r)) hw
  refine wp_imp hw (fun o ho => ?_) fun _ e => e
  cases o with
  | nx s' => exact ho
  | bk s' => exact ho
  | rt r => exact ho
theorem loopR_end {f : σt → α → R (Lp σt ρ)} {s : σt} {i : Nat} (h : xs.length ≤ i) {dn : σt → Prop} {rt : ρ → Prop} (hw : wp (loopR f s (xs.drop i)) (leP dn rt) E) : dn s := by
  rw [List.drop_of_length_le h] at hw
  exact hw
theorem rng_get (lo : Int) : ∀ (n i : Nat) (h : i < (rng lo n).length), (rng lo n)[i] = lo + i := by
  intro n
  induction n generalizing lo with
  | zero => intro i h; exact absurd h (Nat.not_lt_zero _)
  | succ n ih =>
    intro i h
    cases i with
    | zero =>
      show lo = lo + ((0 : Nat) : Int)
      omega
    | succ i =>
      have := ih (lo + 1) i (Nat.lt_of_succ_lt_succ h)
      show (rng (lo + 1) n)[i]'(Nat.lt_of_succ_lt_succ h) = lo + ((i + 1 : Nat) : Int)
      rw [this]
      omega

theorem for_rngR {f : σt → Int → R σt} (rel : σt → L2.St → Hp → Prop)
    (hm : wp (foldR f s0 (rng lo n)) (fun s => ∀ σ H, rel s σ H → D.nx σ H) E) (h0 : rel s0 σ H)
    (hs : ∀ (x : Int) (s : σt) (σ : L2.St) (H : Hp) (N : L2.St → Hp → Prop), rel s σ H → wp (f s x) (fun s' => ∀ σ' H', rel s' σ' H' → N σ' H') E →
      g (.int x) σ H fun σ2 H2 => tb { D with nx := N, ct := N, bk := D.nx } σ2 H2) :
    ∃ W : Nat → Nat → L2.St → Hp → Prop, (∃ m, W 0 m σ H) ∧ ∀ i m σ H, W i m σ H →
      ((Itr lo n).stop i H ∧ D.nx σ H) ∨ ((Itr lo n).go i H ∧ ∃ N : L2.St → Hp → Prop, (∀ σ' H', N σ' H' → ∃ m', m' < m ∧ W (i + 1) m' σ' H') ∧ ∀ x H', (Itr lo n).yld i H x H' → g x σ H' fun σ2 H2 => tb { D with nx := N, ct := N, bk := D.nx } σ2 H2) := by
  refine for_range (lo := lo) (n := n) (fun i σ H => ∃ s, rel s σ H ∧ wp (foldR f s ((rng lo n).drop i)) (fun s => ∀ σ H, rel s σ H → D.nx σ H) E) ⟨s0, h0, hm⟩ ?_ ?_
  · rintro i σ H hi ⟨s, hr, hw⟩
    have hi' : i < (rng lo n).length := by rw [rng_length]; exact hi
    have hw := foldR_step hi' hw
    rw [rng_get lo n i hi'] at hw
    exact hs (lo + i) s σ H _ hr (wp_imp hw (fun s' hs' => fun σ' H' r' => ⟨s', r', hs'⟩) fun _ e => e)
  · rintro σ H ⟨s, hr, hw⟩
    exact foldR_end (by rw [rng_length]; exact Nat.le_refl _) hw σ H hr

theorem for_rngL {f : σt → Int → R (Lp σt ρ)} {RT : ρ → Prop} (rel : σt → L2.St → Hp → Prop)
    (hm : wp (loopR f s0 (rng lo n)) (leP (fun s => ∀ σ H, rel s σ H → D.nx σ H) RT) E) (h0 : rel s0 σ H)
    (hs : ∀ (x : Int) (s : σt) (σ : L2.St) (H : Hp) (N : L2.St → Hp → Prop), rel s σ H → wp (f s x) (lpP (fun s' => ∀ σ' H', rel s' σ' H' → N σ' H') (fun s' => ∀ σ' H', rel s' σ' H' → D.nx σ' H') RT) E →
      g (.int x) σ H fun σ2 H2 => tb { D with nx := N, ct := N, bk := D.nx } σ2 H2) :
    ∃ W : Nat → Nat → L2.St → Hp → Prop, (∃ m, W 0 m σ H) ∧ ∀ i m σ H, W i m σ H →
      ((Itr lo n).stop i H ∧ D.nx σ H) ∨ ((Itr lo n).go i H ∧ ∃ N : L2.St → Hp → Prop, (∀ σ' H', N σ' H' → ∃ m', m' < m ∧ W (i + 1) m' σ' H') ∧ ∀ x H', (Itr lo n).yld i H x H' → g x σ H' fun σ2 H2 => tb { D with nx := N, ct := N, bk := D.nx } σ2 H2) := by
  refine for_range (lo := lo) (n := n) (fun i σ H => ∃ s, rel s σ H ∧ wp (loopR f s ((rng lo n).drop i)) (leP (fun s => ∀ σ H, rel s σ H → D.nx σ H) RT) E) ⟨s0, h0, hm⟩ ?_ ?_
  · rintro i σ H hi ⟨s, hr, hw⟩
    have hi' : i < (rng lo n).length := by rw [rng_length]; exact hi
    have hw := loopR_step hi' hw
    rw [rng_get lo n i hi'] at hw
    exact hs (lo + i) s σ H _ hr (wp_imp hw (fun s' hs' => (by
      cases s' with
      | nx s' => exact fun σ' H' r' => ⟨s', r', hs'⟩
      | bk s' => exact hs'
      | rt r => exact hs')) fun _ e => e)
  · rintro σ H ⟨s, hr, hw⟩
    exact loopR_end (by rw [rng_length]; exact Nat.le_refl _) hw σ H hr

theorem for_lstR {f : σt → α → R σt} (rel : σt → L2.St → Hp → Prop) {vs : List V} {H0 : Hp} (hp : Paired (r H0) xs vs)
    (hm : wp (foldR f s0 xs) (fun s => ∀ σ H, rel s σ H → D.nx σ H) E) (h0 : rel s0 σ H) (hl : ∀ s σ H, rel s σ H → SqL K H a vs)
    (hs : ∀ (x : α) (v : V) (s : σt) (σ : L2.St) (H : Hp) (N : L2.St → Hp → Prop), r H0 x v → rel s σ H → wp (f s x) (fun s' => ∀ σ' H', rel s' σ' H' → N σ' H') E →
      g v σ H fun σ2 H2 => tb { D with nx := N, ct := N, bk := D.nx } σ2 H2) :
    ∃ W : Nat → Nat → L2.St → Hp → Prop, (∃ m, W 0 m σ H) ∧ ∀ i m σ H, W i m σ H →
      ((Itl K a).stop i H ∧ D.nx σ H) ∨ ((Itl K a).go i H ∧ ∃ N : L2.St → Hp → Prop, (∀ σ' H', N σ' H' → ∃ m', m' < m ∧ W (i + 1) m' σ' H') ∧ ∀ x H', (Itl K a).yld i H x H' → g x σ H' fun σ2 H2 => tb { D with nx := N, ct := N, bk := D.nx } σ2 H2) := by
  refine for_list (K := K) (a := a) (xs := vs) (fun i σ H => ∃ s, rel s σ H ∧ wp (foldR f s (xs.drop i)) (fun s => ∀ σ H, rel s σ H → D.nx σ H) E) ⟨s0, h0, hm⟩ (fun i σ H _ ⟨s, hr, _⟩ => hl s σ H hr) ?_ ?_
  · rintro i v σ H hi ⟨s, hr, hw⟩
    have hi' : i < xs.length := by rw [Paired.length hp]; exact (List.getElem?_eq_some_iff.mp hi).1
    have hw := foldR_step hi' hw
    exact hs xs[i] v s σ H _ (Paired.get2 hp hi hi') hr (wp_imp hw (fun s' hs' => fun σ' H' r' => ⟨s', r', hs'⟩) fun _ e => e)
  · rintro σ H ⟨s, hr, hw⟩
    exact foldR_end (by rw [Paired.length hp]; exact Nat.le_refl _) hw σ H hr

theorem for_lstL {f : σt → α → R (Lp σt ρ)} {RT : ρ → Prop} (rel : σt → L2.St → Hp → Prop) {vs : List V} {H0 : Hp} (hp : Paired (r H0) xs vs)
    (hm : wp (loopR f s0 xs) (leP (fun s => ∀ σ H, rel s σ H → D.nx σ H) RT) E) (h0 : rel s0 σ H) (hl : ∀ s σ H, rel s σ H → SqL K H a vs)
    (hs : ∀ (x : α) (v : V) (s : σt) (σ : L2.St) (H : Hp) (N : L2.St → Hp → Prop), r H0 x v → rel s σ H → wp (f s x) (lpP (fun s' => ∀ σ' H', rel s' σ' H' → N σ' H') (fun s' => ∀ σ' H', rel s' σ' H' → D.nx σ' H') RT) E →
      g v σ H fun σ2 H2 => tb { D with nx := N, ct := N, bk := D.nx } σ2 H2) :
    ∃ W : Nat → Nat → L2.St → Hp → Prop, (∃ m, W 0 m σ H) ∧ ∀ i m σ H, W i m σ H →
      ((Itl K a).stop i H ∧ D.nx σ H) ∨ ((Itl K a).go i H ∧ ∃ N : L2.St → Hp → Prop, (∀ σ' H', N σ' H' → ∃ m', m' < m ∧ W (i + 1) m' σ' H') ∧ ∀ x H', (Itl K a).yld i H x H' → g x σ H' fun σ2 H2 => tb { D with nx := N, ct := N, bk := D.nx } σ2 H2) := by
  refine for_list (K := K) (a := a) (xs := vs) (fun i σ H => ∃ s, rel s σ H ∧ wp (loopR f s (xs.drop i)) (leP (fun s => ∀ σ H, rel s σ H → D.nx σ H) RT) E) ⟨s0, h0, hm⟩ (fun i σ H _ ⟨s, hr, _⟩ => hl s σ H hr) ?_ ?_
  · rintro i v σ H hi ⟨s, hr, hw⟩
    have hi' : i < xs.length := by rw [Paired.length hp]; exact (List.getElem?_eq_some_iff.mp hi).1
    have hw := loopR_step hi' hw
    exact hs xs[i] v s σ H _ (Paired.get2 hp hi hi') hr (wp_imp hw (fun s' hs' => (by
      cases s' with
      | nx s' => exact fun σ' H' r' => ⟨s', r', hs'⟩
      | bk s' => exact hs'
      | rt r => exact hs')) fun _ e => e)
  · rintro σ H ⟨s, hr, hw⟩
    exact loopR_end (by rw [Paired.length hp]; exact Nat.le_refl _) hw σ H hr

theorem for_tupR {f : σt → α → R σt} (rel : σt → L2.St → Hp → Prop) {vs : List V} {H0 : Hp} (hp : Paired (r H0) xs vs)
    (hm : wp (foldR f s0 xs) (fun s => ∀ σ H, rel s σ H → D.nx σ H) E) (h0 : rel s0 σ H) (hl : ∀ s σ H, rel s σ H → SqT K H a vs)
    (hs : ∀ (x : α) (v : V) (s : σt) (σ : L2.St) (H : Hp) (N : L2.St → Hp → Prop), r H0 x v → rel s σ H → wp (f s x) (fun s' => ∀ σ' H', rel s' σ' H' → N σ' H') E →
      g v σ H fun σ2 H2 => tb { D with nx := N, ct := N, bk := D.nx } σ2 H2) :
    ∃ W : Nat → Nat → L2.St → Hp → Prop, (∃ m, W 0 m σ H) ∧ ∀ i m σ H, W i m σ H →
      ((Itt K a).stop i H ∧ D.nx σ H) ∨ ((Itt K a).go i H ∧ ∃ N : L2.St → Hp → Prop, (∀ σ' H', N σ' H' → ∃ m', m' < m ∧ W (i + 1) m' σ' H') ∧ ∀ x H', (Itt K a).yld i H x H' → g x σ H' fun σ2 H2 => tb { D with nx := N, ct := N, bk := D.nx } σ2 H2) := by
  refine for_tup (K := K) (a := a) (xs := vs) (fun i σ H => ∃ s, rel s σ H ∧ wp (foldR f s (xs.drop i)) (fun s => ∀ σ H, rel s σ H → D.nx σ H) E) ⟨s0, h0, hm⟩ (fun i σ H _ ⟨s, hr, _⟩ => hl s σ H hr) ?_ ?_
  · rintro i v σ H hi ⟨s, hr, hw⟩
    have hi' : i < xs.length := by rw [Paired.length hp]; exact (List.getElem?_eq_some_iff.mp hi).1
    have hw := foldR_step hi' hw
    exact hs xs[i] v s σ H _ (Paired.get2 hp hi hi') hr (wp_imp hw (fun s' hs' => fun σ' H' r' => ⟨s', r', hs'⟩) fun _ e => e)
  · rintro σ H ⟨s, hr, hw⟩
    exact foldR_end (by rw [Paired.length hp]; exact Nat.le_refl _) hw σ H hr

theorem for_tupL {f : σt → α → R (Lp σt ρ)} {RT : ρ → Prop} (rel : σt → L2.St → Hp → Prop) {vs : List V} {H0 : Hp} (hp : Paired (r H0) xs vs)
    (hm : wp (loopR f s0 xs) (leP (fun s => ∀ σ H, rel s σ H → D.nx σ H) RT) E) (h0 : rel s0 σ H) (hl : ∀ s σ H, rel s σ H → SqT K H a vs)
    (hs : ∀ (x : α) (v : V) (s : σt) (σ : L2.St) (H : Hp) (N : L2.St → Hp → Prop), r H0 x v → rel s σ H → wp (f s x) (lpP (fun s' => ∀ σ' H', rel s' σ' H' → N σ' H') (fun s' => ∀ σ' H', rel s' σ' H' → D.nx σ' H') RT) E →
      g v σ H fun σ2 H2 => tb { D with nx := N, ct := N, bk := D.nx } σ2 H2) :
    ∃ W : Nat → Nat → L2.St → Hp → Prop, (∃ m, W 0 m σ H) ∧ ∀ i m σ H, W i m σ H →
      ((Itt K a).stop i H ∧ D.nx σ H) ∨ ((Itt K a).go i H ∧ ∃ N : L2.St → Hp → Prop, (∀ σ' H', N σ' H' → ∃ m', m' < m ∧ W (i + 1) m' σ' H') ∧ ∀ x H', (Itt K a).yld i H x H' → g x σ H' fun σ2 H2 => tb { D with nx := N, ct := N, bk := D.nx } σ2 H2) := by
  refine for_tup (K := K) (a := a) (xs := vs) (fun i σ H => ∃ s, rel s σ H ∧ wp (loopR f s (xs.drop i)) (leP (fun s => ∀ σ H, rel s σ H → D.nx σ H) RT) E) ⟨s0, h0, hm⟩ (fun i σ H _ ⟨s, hr, _⟩ => hl s σ H hr) ?_ ?_
  · rintro i v σ H hi ⟨s, hr, hw⟩
    have hi' : i < xs.length := by rw [Paired.length hp]; exact (List.getElem?_eq_some_iff.mp hi).1
    have hw := loopR_step hi' hw
    exact hs xs[i] v s σ H _ (Paired.get2 hp hi hi') hr (wp_imp hw (fun s' hs' => (by
      cases s' with
      | nx s' => exact fun σ' H' r' => ⟨s', r', hs'⟩
      | bk s' => exact hs'
      | rt r => exact hs')) fun _ e => e)
  · rintro σ H ⟨s, hr, hw⟩
    exact loopR_end (by rw [Paired.length hp]; exact Nat.le_refl _) hw σ H hr

/-- a while; N, W, m: handed on -/
theorem whl_R {c : TT} {cb : σt → R Bool} {f : σt → R σt} {n : Nat} (rel : σt → L2.St → Hp → Prop)
    (hm : wp (whileR cb f n s0) (fun s => ∀ σ H, rel s σ H → D.nx σ H) E) (h0 : rel s0 σ H)
    (hs : ∀ (s : σt) (σ : L2.St) (H : Hp) (N : L2.St → Hp → Prop) (W : Nat → L2.St → Hp → Prop) (m : Nat), (∀ σ' H', N σ' H' → ∃ m', m' < m ∧ W m' σ' H') → rel s σ H →
      wp (cb s) (fun b => if b = true then wp (f s) (fun s' => ∀ σ' H', rel s' σ' H' → N σ' H') E else ∀ σ H, rel s σ H → D.nx σ H) E →
      c σ H fun b H1 => if b = true then ∃ N : L2.St → Hp → Prop, (∀ σ' H', N σ' H' → ∃ m', m' < m ∧ W m' σ' H') ∧ tb { D with nx := N, ct := N, bk := D.nx } σ H1 else D.nx σ H1) : tWhile c tb D σ H := by
  refine ⟨fun m σ H => ∃ s, rel s σ H ∧ wp (whileR cb f m s) (fun s => ∀ σ H, rel s σ H → D.nx σ H) E, ⟨n, s0, h0, hm⟩, ?_⟩
  rintro m σ H ⟨s, hr, hw⟩
  cases m with
  | zero => exact hw.elim
  | succ m =>
    have hw := wp_bind (m := cb s) (f := fun b => if b = true then (f s).bind fun s' => whileR cb f m s' else .ok s) hw
    refine hs s σ H (fun σ' H' => ∃ s', rel s' σ' H' ∧ wp (whileR cb f m s') (fun s => ∀ σ H, rel s σ H → D.nx σ H) E) _ _ (fun σ' H' h => ⟨m, Nat.lt_succ_self _, h⟩) hr (wp_imp hw (fun b hb => ?_) fun _ e => e)
    cases b with
    | true => exact wp_imp (wp_bind hb) (fun s' hs' => fun σ' H' r' => ⟨s', r', hs'⟩) fun _ e => e
    | false => exact hb
theorem whl_L {c : TT} {cb : σt → R Bool} {f : σt → R (Lp σt ρ)} {n : Nat} {RT : ρ → Prop} (rel : σt → L2.St → Hp → Prop)
    (hm : wp (whileL cb f n s0) (leP (fun s => ∀ σ H, rel s σ H → D.nx σ H) RT) E) (h0 : rel s0 σ H)
    (hs : ∀ (s : σt) (σ : L2.St) (H : Hp) (N : L2.St → Hp → Prop) (W : Nat → L2.St → Hp → Prop) (m : Nat), (∀ σ' H', N σ' H' → ∃ m', m' < m ∧ W m' σ' H') → rel s σ H →
      wp (cb s) (fun b => if b = true then wp (f s) (lpP (fun s' => ∀ σ' H', rel s' σ' H' → N σ' H') (fun s' => ∀ σ' H', rel s' σ' H' → D.nx σ' H') RT) E else ∀ σ H, rel s σ H → D.nx σ H) E →
      c σ H fun b H1 => if b = true then ∃ N : L2.St → Hp → Prop, (∀ σ' H', N σ' H' → ∃ m', m' < m ∧ W m' σ' H') ∧ tb { D with nx := N, ct := N, bk := D.nx } σ H1 else D.nx σ H1) : tWhile c tb D σ H := by
  refine ⟨fun m σ H => ∃ s, rel s σ H ∧ wp (whileL cb f m s) (leP (fun s => ∀ σ H, rel s σ H → D.nx σ H) RT) E, ⟨n, s0, h0, hm⟩, ?_⟩
  rintro m σ H ⟨s, hr, hw⟩
  cases m with
  | zero => exact hw.elim
  | succ m =>
    have hw := wp_bind (m := cb s) (f := fun b => if b = true then (f s).bind fun o => match o with
      | .nx s' => whileL cb f m s'
      | .bk s' => .ok (.dn s')
      | .rt r => .ok (.rt r) else .ok (.dn s)) hw
    refine hs s σ H (fun σ' H' => ∃ s', rel s' σ' H' ∧ wp (whileL cb f m s') (leP (fun s => ∀ σ H, rel s σ H → D.nx σ H) RT) E) _ _ (fun σ' H' h => ⟨m, Nat.lt_succ_self _, h⟩) hr (wp_imp hw (fun b hb => ?_) fun _ e => e)
    cases b with
    | true =>
      refine wp_imp (wp_bind hb) (fun o ho => ?_) fun _ e => e
      cases o with
      | nx s' => exact fun σ' H' r' => ⟨s', r', ho⟩
      | bk s' => exact ho
      | rt r => exact ho
    | false => exact hb
theorem wp_thn {σ ρ τ : Type} {o : Le σ ρ} {k : σ → R τ} {ret : ρ → R τ} {P : τ → Prop} (h : wp (o.thn k ret) P E) : leP (fun s => wp (k s) P E) (fun r => wp (ret r) P E) o := by
  cases o <;> exact h
theorem leP_imp {σ ρ : Type} {o : Le σ ρ} {dn dn' : σ → Prop} {rt rt' : ρ → Prop} (h : leP dn rt o) (h1 : ∀ s, dn s → dn' s) (h2 : ∀ r, rt r → rt' r) : leP dn' rt' o := by
  cases o with
  | dn s => exact h1 s h
  | rt r => exact h2 r h
end
/-- two statements in a row: what the second one wants is shown once -/
theorem seq_join {S : Type} {t u : TS} {D : Ends} {σ : L2.St} {H : Hp} {m : R S} {Z : S → Prop} {E : Er → Prop} (hm : wp m Z E) (rel : S → L2.St → Hp → Prop)
    (h : ∀ N : L2.St → Hp → Prop, (∀ s σ' H', rel s σ' H' → Z s → N σ' H') → wp m Z E → t { D with nx := N } σ H) (hk : ∀ s σ' H', rel s σ' H' → Z s → u D σ' H') : tSeq t u D σ H := h (u D) hk hm
/-- .. behind a loop that may be left by return -/
theorem seq_joinL {σt ρ : Type} {t u : TS} {D : Ends} {σ : L2.St} {H : Hp} {m : R (Le σt ρ)} {Z : σt → Prop} {RT : ρ → Prop} {E : Er → Prop} (hm : wp m (leP Z RT) E) (rel : σt → L2.St → Hp → Prop)
    (h : ∀ N : L2.St → Hp → Prop, wp m (leP (fun s => ∀ σ' H', rel s σ' H' → N σ' H') RT) E → t { D with nx := N } σ H) (hk : ∀ s σ' H', rel s σ' H' → Z s → u D σ' H') : tSeq t u D σ H :=
  h (u D) (wp_imp hm (fun _ ho => leP_imp ho (fun s hz σ' H' hr => hk s σ' H' hr hz) fun _ h => h) fun _ e => e)
theorem iteB {c : Bool} {A B : Prop} (h1 : c = true → A) (h2 : c = false → B) : if c = true then A else B := by
  cases c with
  | true => exact iteT (h1 rfl)
  | false => exact iteF (h2 rfl)
theorem wp_iteB {α : Type} {c : Bool} {m n : R α} {P : α → Prop} {E : Er → Prop} (h : wp (if c = true then m else n) P E) : if c = true then wp m P E else wp n P E := by
  cases c <;> exact h
theorem ifT {c : Bool} {A B : Prop} (e : c = true) (h : if c = true then A else B) : A := by
  rw [if_pos e] at h
  exact h
theorem ifF {c : Bool} {A B : Prop} (e : c = false) (h : if c = true then A else B) : B := by
  rw [e, if_neg (by decide)] at h
  exact h
/-! ### parts of an expression that are shown apart: and, or, if -/
def EvT (t : TT) (σ : L2.St) (H : Hp) (m : R Bool) (E : Er → Prop) : Prop := ∀ Q : Bool → Hp → Prop, wp m (fun c => ∀ H', Gr [] H H' → Q c H') E → t σ H Q
def EvV {α : Type} (r : Rp α) (t : TE) (σ : L2.St) (H : Hp) (m : R α) (E : Er → Prop) : Prop := ∀ Q : VK, wp m (fun x => ∀ v H', Gr [] H H' → r H' x v → Q v H') E → t σ H Q
section
variable {t u : TT} {σ : L2.St} {H : Hp} {E : Er → Prop} {m n : R Bool}
def andR (m n : R Bool) : R Bool := m.bind fun b => if b = true then n else .ok false
def orR (m n : R Bool) : R Bool := m.bind fun b => if b = true then .ok true else n
theorem ev_and (h1 : EvT t σ H m E) (h2 : ∀ H', Gr [] H H' → EvT u σ H' n E) : EvT (tAnd t u) σ H (andR m n) E := fun Q hw => h1 _ (wp_imp (wp_bind hw) (fun b hb H' g => by
  cases b with
  | true => exact iteT (h2 H' g Q (wp_imp hb (fun c hc H2 g2 => hc H2 (g.trans g2)) fun _ e => e))
  | false => exact iteF (hb H' g)) fun _ e => e)
theorem ev_or (h1 : EvT t σ H m E) (h2 : ∀ H', Gr [] H H' → EvT u σ H' n E) : EvT (tOr t u) σ H (orR m n) E := fun Q hw => h1 _ (wp_imp (wp_bind hw) (fun b hb H' g => by
  cases b with
  | true => exact iteT (hb H' g)
  | false => exact iteF (h2 H' g Q (wp_imp hb (fun c hc H2 g2 => hc H2 (g.trans g2)) fun _ e => e))) fun _ e => e)
theorem ev_not (h1 : EvT t σ H m E) : EvT (tNot t) σ H (m.bind fun b => .ok (!b)) E := fun Q hw => h1 _ (wp_bind hw)
theorem ev_andV {ta tb : TE} (h1 : EvV rB ta σ H m E) (h2 : ∀ H', Gr [] H H' → EvV rB tb σ H' n E) : EvV rB (tAndV ta tb) σ H (andR m n) E := fun Q hw => h1 _ (wp_imp (wp_bind hw) (fun b hb v H' g e => ⟨b, e, by
  cases b with
  | true => exact iteT (h2 H' g Q (wp_imp hb (fun c hc v2 H2 g2 e2 => hc v2 H2 (g.trans g2) e2) fun _ e => e))
  | false => exact iteF (hb (.bl false) H' g rfl)⟩) fun _ e => e)
theorem ev_orV {ta tb : TE} (h1 : EvV rB ta σ H m E) (h2 : ∀ H', Gr [] H H' → EvV rB tb σ H' n E) : EvV rB (tOrV ta tb) σ H (orR m n) E := fun Q hw => h1 _ (wp_imp (wp_bind hw) (fun b hb v H' g e => ⟨b, e, by
  cases b with
  | true => exact iteT (hb (.bl true) H' g rfl)
  | false => exact iteF (h2 H' g Q (wp_imp hb (fun c hc v2 H2 g2 e2 => hc v2 H2 (g.trans g2) e2) fun _ e => e))⟩) fun _ e => e)
theorem ev_notV {ta : TE} (h1 : EvV rB ta σ H m E) : EvV rB (tNotV ta) σ H (m.bind fun b => .ok (!b)) E := fun Q hw => h1 _ (wp_imp (wp_bind hw) (fun b hb v H' g e => ⟨b, e, hb (.bl (!b)) H' g rfl⟩) fun _ e => e)
theorem ev_if {α : Type} {r : Rp α} {ta tb : TE} {x y : R α} (h1 : EvT t σ H m E) (h2 : ∀ H', Gr [] H H' → EvV r ta σ H' x E) (h3 : ∀ H', Gr [] H H' → EvV r tb σ H' y E) : EvV r (tIf t ta tb) σ H (m.bind fun b => if b = true then x else y) E :=
  fun Q hw => h1 _ (wp_imp (wp_bind hw) (fun b hb H' g => by
    cases b with
    | true => exact iteT (h2 H' g Q (wp_imp hb (fun c hc v2 H2 g2 e2 => hc v2 H2 (g.trans g2) e2) fun _ e => e))
    | false => exact iteF (h3 H' g Q (wp_imp hb (fun c hc v2 H2 g2 e2 => hc v2 H2 (g.trans g2) e2) fun _ e => e))) fun _ e => e)
end
/-! ### a def, for its callers -/
def Cal (P : Program) (w : World) (K : PySem.W.Frag) (mg : Str → Option Value) (base : Heap) (CX : CXT) (k : Nat) (x : Str) (ps : List Str) (sp : Sp) : Prop :=
  ∃ (f : Addr) (fd : FuncData), FnOk P w K mg base CX k f fd ps sp ∧ mg x = some (.ref f) ∧ PySem.W.keepIn K (.ref f) = true ∧ Binds K fd ps []

/-- .. where the statement is the last of its block -/
theorem nx_join {S : Type} {t : TS} {D : Ends} {σ : L2.St} {H : Hp} {m : R S} {Z : S → Prop} {E : Er → Prop} (hm : wp m Z E) (rel : S → L2.St → Hp → Prop)
    (h : ∀ N : L2.St → Hp → Prop, (∀ s σ' H', rel s σ' H' → Z s → N σ' H') → wp m Z E → t { D with nx := N } σ H) (hk : ∀ s σ' H', rel s σ' H' → Z s → D.nx σ' H') : t D σ H := h D.nx hk hm
theorem nx_joinL {σt ρ : Type} {t : TS} {D : Ends} {σ : L2.St} {H : Hp} {m : R (Le σt ρ)} {Z : σt → Prop} {RT : ρ → Prop} {E : Er → Prop} (hm : wp m (leP Z RT) E) (rel : σt → L2.St → Hp → Prop)
    (h : ∀ N : L2.St → Hp → Prop, wp m (leP (fun s => ∀ σ' H', rel s σ' H' → N σ' H') RT) E → t { D with nx := N } σ H) (hk : ∀ s σ' H', rel s σ' H' → Z s → D.nx σ' H') : t D σ H :=
  h D.nx (wp_imp hm (fun _ ho => leP_imp ho (fun s hz σ' H' hr => hk s σ' H' hr hz) fun _ h => h) fun _ e => e)
theorem wp_le {σt ρ τ : Type} {m : R (Le σt ρ)} {k : σt → R τ} {ret : ρ → R τ} {P : τ → Prop} {E : Er → Prop} (h : wp (m.bind fun o => o.thn k ret) P E) : wp m (leP (fun s => wp (k s) P E) (fun r => wp (ret r) P E)) E :=
  wp_imp (wp_bind h) (fun _ h => wp_thn h) fun _ e => e
theorem wp_N {S : Type} {m : R S} {Z : S → Prop} {E : Er → Prop} {rel : S → L2.St → Hp → Prop} {N : L2.St → Hp → Prop} (hm : wp m Z E) (hN : ∀ s σ' H', rel s σ' H' → Z s → N σ' H') : wp m (fun s => ∀ σ' H', rel s σ' H' → N σ' H') E :=
  wp_imp hm (fun s hz σ' H' hr => hN s σ' H' hr hz) fun _ e => e
theorem all0 {P : Addr → Prop} : ∀ p ∈ ([] : List Addr), P p := fun _ m => absurd m (by simp)
theorem all1 {P : Addr → Prop} {a : Addr} {l : List Addr} (h : P a) (t : ∀ p ∈ l, P p) : ∀ p ∈ a :: l, P p := fun p m => by
  rcases List.mem_cons.mp m with rfl | m
  · exact h
  · exact t p m
theorem nin0 {a : Addr} : a ∉ ([] : List Addr) := by simp
theorem nin1 {a b : Addr} {l : List Addr} (h : a ≠ b) (t : a ∉ l) : a ∉ b :: l := fun m => by
  rcases List.mem_cons.mp m with e | m
  · exact h e
  · exact t m
theorem in0 {a : Addr} {l : List Addr} : a ∈ a :: l := List.mem_cons_self
theorem in1 {a b : Addr} {l : List Addr} (h : a ∈ l) : a ∈ b :: l := List.mem_cons_of_mem _ h
/-! ### more on data -/
theorem rO_some {α : Type} {r : Rp α} {H : Hp} {x : α} {v : V} (h : v ≠ .non ∧ r H x v) : rO r H (some x) v := h
def pgcd (a b : Int) : Int := ((Nat.gcd a.natAbs b.natAbs : Nat) : Int)
instance (i j : Int) : Decidable (CMul i j) := inferInstanceAs (Decidable (_ ∨ _))
instance (i j : Int) : Decidable (CDiv i j) := inferInstanceAs (Decidable (_ ∧ _))
instance (i j : Int) : Decidable (CDivN i j) := inferInstanceAs (Decidable (_ ∧ _))
section
variable {α β γ : Type} {K : PySem.W.Frag} {r : Rp α} {s : Rp β} {t : Rp γ} {H : Hp} {a : Addr} {xs : List α} {Q : VK} {E : Er → Prop}
theorem Ls.ty (h : Ls r H a xs) : tyV K "list" (.ref a) H := let ⟨_, h1, _⟩ := h; .inl ⟨rfl, _, .inl (.inl h1)⟩
theorem sorted_L {ns : List Int} (h : Lq K rI H a ns) (q : ∀ p H', H p = none → Gr [] H H' → Ls rI H' p (isort ns) → Q (.ref p) H') : ap3 (rSortedI K) [.ref a] H Q := by
  obtain ⟨vs, h1, h2⟩ := h
  have e := ints_of h2
  subst e
  refine ⟨a, ns, rfl, h1, fun ns' p pm sr n => ?_⟩
  have e : ns' = isort ns := sort_eq (pm.trans (isort_perm ns).symm) sr (isort_le ns)
  subst e
  exact q _ _ n (Gr.new n) ⟨_, upd_same, of_ints⟩
/-- an item is added to a comprehension's list -/
theorem lc_add [Imm r] {x : α} {y : V} {Nx : Hp → Prop} (h : Ls r H a xs) (hy : r H x y) (l : lenLt xs) (q : ∀ H', Gr [a] H H' → Ls r H' a (xs ++ [x]) → Nx H') : ∃ acc, H a = some (.lst acc) ∧ acc.length < sizeLine ∧ Nx (upd H a (.lst (acc ++ [y]))) := by
  obtain ⟨vs, h1, h2⟩ := h
  exact ⟨vs, h1, by rw [← Paired.length h2]; exact l, q _ (Gr.set h1) ⟨_, upd_same, Paired.app (Paired.imm (Gr.set h1) h2) (.cons (Imm.mono (Gr.set h1) hy) .nil)⟩⟩
theorem chain_I {X Y Z : Int} {p q : Int → Int → Bool} {ta tb tc : TE} {σ : L2.St} (ha : ∀ Q : VK, Q (.int X) H → ta σ H Q) (hb : ∀ Q : VK, Q (.int Y) H → tb σ H Q) (hc : ∀ Q : VK, Q (.int Z) H → tc σ H Q)
    (h : Q (.bl (p X Y && q Y Z)) H) : tChain (rI0 fun i j => .bl (p i j)) (rI0 fun i j => .bl (q i j)) ta tb tc σ H Q := by
  refine ha _ (hb _ ⟨_, _, rfl, rfl, _, rfl, ?_⟩)
  cases e : p X Y with
  | true =>
    rw [e] at h
    exact iteT (hc _ ⟨_, _, rfl, rfl, h⟩)
  | false =>
    rw [e] at h
    exact iteF h
/-! ### == of data -/
theorem beq_dec {α : Type} [BEq α] [LawfulBEq α] [DecidableEq α] (a b : α) : (a == b) = decide (a = b) := by
  rw [Bool.eq_iff_iff, beq_iff_eq, decide_eq_true_eq]
structure DRep {α : Type} [DecidableEq α] (K : PySem.W.Frag) (r : Rp α) where
  enc : α → PyData
  dp : ∀ {H : Hp} {x : α} {v : V}, r H x v → Dp K H v (enc x)
  lay : ∀ x, (enc x).canLay0 = true
  dep : Nat
  dep_le : ∀ x, (enc x).depth ≤ dep
  eqv : ∀ x y, PyData.eqv (enc x) (enc y) = decide (x = y)
def DRep.int (K : PySem.W.Frag) : DRep K rI := ⟨.int, fun h => by rw [show _ = V.int _ from h]; exact .int _, fun _ => by rw [PyData.canLay0], 0, fun _ => by rw [PyData.depth]; exact Nat.le_refl _, fun a b => by
  simp only [PyData.eqv]
  exact beq_dec a b⟩
def DRep.bool (K : PySem.W.Frag) : DRep K rB := ⟨.bool, fun h => by rw [show _ = V.bl _ from h]; exact .bl _, fun _ => by rw [PyData.canLay0], 0, fun _ => by rw [PyData.depth]; exact Nat.le_refl _, fun a b => by
  simp only [PyData.eqv]
  exact beq_dec a b⟩
section
variable [DecidableEq α] [DecidableEq β] [DecidableEq γ]
theorem DRep.all (d : DRep K r) : ∀ {xs : List α} {vs : List V}, Paired (r H) xs vs → DpAll K H vs (xs.map d.enc)
  | _, _, .nil => .nil
  | _, _, .cons h t => .cons (d.dp h) (DRep.all d t)
theorem DRep.layA (d : DRep K r) : ∀ xs : List α, PyData.canLayAll0 (xs.map d.enc) = true
  | [] => by rw [List.map_nil, PyData.canLayAll0]
  | x :: xs => by
    rw [List.map_cons, PyData.canLayAll0, d.lay x, DRep.layA d xs]
    rfl
theorem DRep.depA (d : DRep K r) : ∀ xs : List α, PyData.depthAll (xs.map d.enc) ≤ d.dep
  | [] => by
    rw [List.map_nil, PyData.depthAll]
    exact Nat.zero_le _
  | x :: xs => by
    rw [List.map_cons, PyData.depthAll]
    exact Nat.max_le.mpr ⟨d.dep_le x, DRep.depA d xs⟩
theorem DRep.eqvA (d : DRep K r) : ∀ xs ys : List α, PyData.eqvAll (xs.map d.enc) (ys.map d.enc) = decide (xs = ys)
  | [], [] => by simp only [List.map_nil, PyData.eqvAll, decide_true]
  | [], _ :: _ => by simp [PyData.eqvAll]
  | _ :: _, [] => by simp [PyData.eqvAll]
  | x :: xs, y :: ys => by
    rw [List.map_cons, List.map_cons, PyData.eqvAll, d.eqv x y, DRep.eqvA d xs ys, ← Bool.decide_and]
    exact decide_eq_decide.mpr (by rw [List.cons.injEq])
def DRep.tup (d : DRep K r) : DRep K (rT K r) where
  enc xs := .tuple (xs.map d.enc)
  dp := fun h => by
    obtain ⟨a, rfl, vs, h1, h2⟩ := h
    exact .tup h1 (d.all h2)
  lay xs := by rw [PyData.canLay0]; exact d.layA xs
  dep := d.dep + 1
  dep_le xs := by rw [PyData.depth]; exact Nat.succ_le_succ (d.depA xs)
  eqv xs ys := by simp only [PyData.eqv]; exact d.eqvA xs ys
def rL (K : PySem.W.Frag) (r : Rp α) : Rp (List α) := fun H xs v => ∃ a, v = .ref a ∧ Lq K r H a xs
theorem rL_of (h : Lq K r H a xs) : rL K r H xs (.ref a) := ⟨a, rfl, h⟩
def DRep.lst (d : DRep K r) : DRep K (rL K r) where
  enc xs := .list (xs.map d.enc)
  dp := fun h => by
    obtain ⟨a, rfl, vs, h1, h2⟩ := h
    exact .lst h1 (d.all h2)
  lay xs := by rw [PyData.canLay0]; exact d.layA xs
  dep := d.dep + 1
  dep_le xs := by rw [PyData.depth]; exact Nat.succ_le_succ (d.depA xs)
  eqv xs ys := by simp only [PyData.eqv]; exact d.eqvA xs ys
def DRep.pair (d : DRep K r) (e : DRep K s) : DRep K (rP K r s) where
  enc p := .tuple [d.enc p.1, e.enc p.2]
  dp := fun h => by
    obtain ⟨a, x, y, rfl, h, h1, h2⟩ := h
    exact .tup h (.cons (d.dp h1) (.cons (e.dp h2) .nil))
  lay p := by simp [PyData.canLay0, PyData.canLayAll0, d.lay, e.lay]
  dep := max d.dep e.dep + 1
  dep_le p := by
    have := d.dep_le p.1
    have := e.dep_le p.2
    simp only [PyData.depth, PyData.depthAll]
    omega
  eqv p q := by
    obtain ⟨a, b⟩ := p
    obtain ⟨c, f⟩ := q
    simp only [PyData.eqv, PyData.eqvAll, d.eqv, e.eqv, Bool.and_true, ← Bool.decide_and]
    exact decide_eq_decide.mpr (by rw [Prod.mk.injEq])
theorem DRep.sh (d : DRep K r) (hl : d.dep ≤ 64) (x : α) : SeqAt.shaped (d.enc x) = true := by
  unfold SeqAt.shaped
  rw [d.lay x, Bool.true_and]
  exact decide_eq_true (Nat.le_trans (d.dep_le x) hl)
theorem eq_D (d : DRep K r) {x y : α} {v w : V} (hx : r H x v) (hy : r H y w) (q : Q (.bl (decide (x = y))) H) (hl : d.dep ≤ 64 := by exact Nat.le_of_ble_eq_true rfl) : rEqD K v w H Q :=
  ⟨_, _, d.dp hx, d.dp hy, d.sh hl x, d.sh hl y, by rw [d.eqv]; exact q⟩
theorem ne_D (d : DRep K r) {x y : α} {v w : V} (hx : r H x v) (hy : r H y w) (q : Q (.bl (!decide (x = y))) H) (hl : d.dep ≤ 64 := by exact Nat.le_of_ble_eq_true rfl) : rNeD K v w H Q :=
  ⟨_, _, d.dp hx, d.dp hy, d.sh hl x, d.sh hl y, by rw [d.eqv]; exact q⟩
end
/-! ### comprehensions over lists, tuples, ranges; A: the lists that the elements change, st: what else is carried -/
theorem lc_lst {σt : Type} {s0 : σt} {f : σt → α → R σt} {Z : σt → Prop} {g : TG} {tt : TT} {te : TE} {own : List Nat} {σ : L2.St} {H1 : Hp} {D : Addr} {Qd : Hp → Prop} (rel : σt → Hp → Prop) {vs : List V} (hp : Paired (r H1) xs vs)
    (hm : wp (foldR f s0 xs) Z E) (h0 : rel s0 (upd H1 D (.lst []))) (hl : ∀ s H, rel s H → SqL K H a vs)
    (hs : ∀ (x : α) (v : V) (s : σt) (H : Hp) (Nx : Hp → Prop), r H1 x v → rel s H → wp (f s x) (fun s' => ∀ H', rel s' H' → Nx H') E →
      g (v) (wipe σ own) H fun σ2 H2 => wipe σ2 own = wipe σ own ∧ tt σ2 H2 fun b H3 => if b = true then te σ2 H3 fun y H4 => ∃ acc, H4 D = some (.lst acc) ∧ acc.length < sizeLine ∧ Nx (upd H4 D (.lst (acc ++ [y]))) else Nx H3)
    (hd : ∀ s H, rel s H → Z s → Qd H) :
    ∃ W : Nat → Nat → Hp → Prop, (∃ m, W 0 m (upd H1 D (.lst []))) ∧ ∀ i m H, W i m H →
      ((Itl K a).stop i H ∧ Qd H) ∨ ((Itl K a).go i H ∧ ∃ Nx : Hp → Prop, (∀ H', Nx H' → ∃ m', m' < m ∧ W (i + 1) m' H') ∧ ∀ x H', (Itl K a).yld i H x H' → g x (wipe σ own) H' fun σ2 H2 => wipe σ2 own = wipe σ own ∧ tt σ2 H2 fun b H3 =>
        if b = true then te σ2 H3 fun y H4 => ∃ acc, H4 D = some (.lst acc) ∧ acc.length < sizeLine ∧ Nx (upd H4 D (.lst (acc ++ [y]))) else Nx H3) := by
  refine L2.lc_list (K := K) (a := a) (xs := vs) (fun i H => ∃ s, rel s H ∧ wp (foldR f s (xs.drop i)) Z E) ⟨s0, h0, hm⟩ (fun i H _ ⟨s, hr, _⟩ => hl s H hr) ?_ ?_
  · rintro i v H hi ⟨s, hr, hw⟩
    have hi' : i < xs.length := by rw [Paired.length hp]; exact (List.getElem?_eq_some_iff.mp hi).1
    have hw := foldR_step hi' hw
    exact hs xs[i] v s H _ (Paired.get2 hp hi hi') hr (wp_imp hw (fun s' hs' => fun H' r' => ⟨s', r', hs'⟩) fun _ e => e)
  · rintro H ⟨s, hr, hw⟩
    exact hd s H hr (foldR_end (by rw [Paired.length hp]; exact Nat.le_refl _) hw)
theorem lc_tup {σt : Type} {s0 : σt} {f : σt → α → R σt} {Z : σt → Prop} {g : TG} {tt : TT} {te : TE} {own : List Nat} {σ : L2.St} {H1 : Hp} {D : Addr} {Qd : Hp → Prop} (rel : σt → Hp → Prop) {vs : List V} (hp : Paired (r H1) xs vs)
    (hm : wp (foldR f s0 xs) Z E) (h0 : rel s0 (upd H1 D (.lst []))) (hl : ∀ s H, rel s H → SqT K H a vs)
    (hs : ∀ (x : α) (v : V) (s : σt) (H : Hp) (Nx : Hp → Prop), r H1 x v → rel s H → wp (f s x) (fun s' => ∀ H', rel s' H' → Nx H') E →
      g (v) (wipe σ own) H fun σ2 H2 => wipe σ2 own = wipe σ own ∧ tt σ2 H2 fun b H3 => if b = true then te σ2 H3 fun y H4 => ∃ acc, H4 D = some (.lst acc) ∧ acc.length < sizeLine ∧ Nx (upd H4 D (.lst (acc ++ [y]))) else Nx H3)
    (hd : ∀ s H, rel s H → Z s → Qd H) :
    ∃ W : Nat → Nat → Hp → Prop, (∃ m, W 0 m (upd H1 D (.lst []))) ∧ ∀ i m H, W i m H →
      ((Itt K a).stop i H ∧ Qd H) ∨ ((Itt K a).go i H ∧ ∃ Nx : Hp → Prop, (∀ H', Nx H' → ∃ m', m' < m ∧ W (i + 1) m' H') ∧ ∀ x H', (Itt K a).yld i H x H' → g x (wipe σ own) H' fun σ2 H2 => wipe σ2 own = wipe σ own ∧ tt σ2 H2 fun b H3 =>
        if b = true then te σ2 H3 fun y H4 => ∃ acc, H4 D = some (.lst acc) ∧ acc.length < sizeLine ∧ Nx (upd H4 D (.lst (acc ++ [y]))) else Nx H3) := by
  refine L2.lc_tup (K := K) (a := a) (xs := vs) (fun i H => ∃ s, rel s H ∧ wp (foldR f s (xs.drop i)) Z E) ⟨s0, h0, hm⟩ (fun i H _ ⟨s, hr, _⟩ => hl s H hr) ?_ ?_
  · rintro i v H hi ⟨s, hr, hw⟩
    have hi' : i < xs.length := by rw [Paired.length hp]; exact (List.getElem?_eq_some_iff.mp hi).1
    have hw := foldR_step hi' hw
    exact hs xs[i] v s H _ (Paired.get2 hp hi hi') hr (wp_imp hw (fun s' hs' => fun H' r' => ⟨s', r', hs'⟩) fun _ e => e)
  · rintro H ⟨s, hr, hw⟩
    exact hd s H hr (foldR_end (by rw [Paired.length hp]; exact Nat.le_refl _) hw)
theorem lc_rng {σt : Type} {s0 : σt} {f : σt → Int → R σt} {Z : σt → Prop} {g : TG} {tt : TT} {te : TE} {own : List Nat} {σ : L2.St} {H1 : Hp} {D : Addr} {Qd : Hp → Prop} (rel : σt → Hp → Prop) {lo : Int} {n : Nat}
    (hm : wp (foldR f s0 (rng lo n)) Z E) (h0 : rel s0 (upd H1 D (.lst [])))
    (hs : ∀ (x : Int) (s : σt) (H : Hp) (Nx : Hp → Prop), rel s H → wp (f s x) (fun s' => ∀ H', rel s' H' → Nx H') E →
      g (.int x) (wipe σ own) H fun σ2 H2 => wipe σ2 own = wipe σ own ∧ tt σ2 H2 fun b H3 => if b = true then te σ2 H3 fun y H4 => ∃ acc, H4 D = some (.lst acc) ∧ acc.length < sizeLine ∧ Nx (upd H4 D (.lst (acc ++ [y]))) else Nx H3)
    (hd : ∀ s H, rel s H → Z s → Qd H) :
    ∃ W : Nat → Nat → Hp → Prop, (∃ m, W 0 m (upd H1 D (.lst []))) ∧ ∀ i m H, W i m H →
      ((Itr lo n).stop i H ∧ Qd H) ∨ ((Itr lo n).go i H ∧ ∃ Nx : Hp → Prop, (∀ H', Nx H' → ∃ m', m' < m ∧ W (i + 1) m' H') ∧ ∀ x H', (Itr lo n).yld i H x H' → g x (wipe σ own) H' fun σ2 H2 => wipe σ2 own = wipe σ own ∧ tt σ2 H2 fun b H3 =>
        if b = true then te σ2 H3 fun y H4 => ∃ acc, H4 D = some (.lst acc) ∧ acc.length < sizeLine ∧ Nx (upd H4 D (.lst (acc ++ [y]))) else Nx H3) := by
  refine L2.lc_range (lo := lo) (n := n) (fun i H => ∃ s, rel s H ∧ wp (foldR f s ((rng lo n).drop i)) Z E) ⟨s0, h0, hm⟩ ?_ ?_
  · rintro i H hi ⟨s, hr, hw⟩
    have hi' : i < (rng lo n).length := by rw [rng_length]; exact hi
    have hw := foldR_step hi' hw
    rw [rng_get lo n i hi'] at hw
    exact hs (lo + i) s H _ hr (wp_imp hw (fun s' hs' => fun H' r' => ⟨s', r', hs'⟩) fun _ e => e)
  · rintro H ⟨s, hr, hw⟩
    exact hd s H hr (foldR_end (by rw [rng_length]; exact Nat.le_refl _) hw)
end

theorem iteB' {c : Bool} {A B : Prop} (h2 : c = false → B) (h1 : c = true → A) : if c = true then A else B := iteB h1 h2
def rgOk (j : Int) : Prop := -(2 ^ 62) ≤ j ∧ j < 2 ^ 62
instance (j : Int) : Decidable (rgOk j) := inferInstanceAs (Decidable (_ ∧ _))
def rg2Ok (i j : Int) : Prop := -(2 ^ 62) ≤ i ∧ i < 2 ^ 62 ∧ -(2 ^ 62) ≤ j ∧ j < 2 ^ 62
instance (i j : Int) : Decidable (rg2Ok i j) := inferInstanceAs (Decidable (_ ∧ _))

/-! ### the readings' parts, one by one -/
section
variable {D : Ends} {σ : L2.St} {H : Hp} {Q : VK} {K : PySem.W.Frag} {ta tb te : TE} {t u : TS} {tc : TT} {l : TA} {i j k : Nat} {v w : V}
theorem rd_var (e : σ[i]? = some (some v)) (h : Q v H) : tVar i σ H Q := ⟨v, e, h⟩
theorem rd_c (h : Q v H) : tC v σ H Q := h
theorem rd_op {r : R2} (h : ta σ H fun x H1 => tb σ H1 fun y H2 => r x y H2 Q) : tOp r ta tb σ H Q := h
theorem rd_rI0 {g : Int → Int → V} {a b : Int} (h : Q (g a b) H) : rI0 g (.int a) (.int b) H Q := ⟨a, b, rfl, rfl, h⟩
theorem rd_rI {C : Int → Int → Prop} {g : Int → Int → V} {a b : Int} (c : C a b) (h : Q (g a b) H) : L2.rI C g (.int a) (.int b) H Q := ⟨a, b, rfl, rfl, c, h⟩
theorem rd_un {r : V → Hp → VK → Prop} (h : ta σ H fun x H1 => r x H1 Q) : tUn r ta σ H Q := h
theorem rd_rU {g : Int → V} {a : Int} (h : Q (g a) H) : rU g (.int a) H Q := ⟨a, rfl, h⟩
def k2 (p : Int → Int → Bool) (x y : V) (H : Hp) (Q : VK) : Prop := ∃ i j, x = .int i ∧ y = .int j ∧ Q (.bl (p i j)) H
theorem rd_k2 {p : Int → Int → Bool} {a b : Int} (h : Q (.bl (p a b)) H) : k2 p (.int a) (.int b) H Q := ⟨a, b, rfl, rfl, h⟩
theorem rd_cmp {p : Int → Int → Bool} (h : ta σ H fun x H1 => tb σ H1 fun y H2 => k2 p x y H2 Q) : tCmp p ta tb σ H Q := h
def kB (x : V) (H : Hp) (Q : Bool → Hp → Prop) : Prop := ∃ c, x = .bl c ∧ Q c H
theorem rd_kB {c : Bool} {Q : Bool → Hp → Prop} (h : Q c H) : kB (.bl c) H Q := ⟨c, rfl, h⟩
theorem rd_B {Q : Bool → Hp → Prop} (h : ta σ H fun x H1 => kB x H1 Q) : tB ta σ H Q := h
theorem rd_T {Q : Bool → Hp → Prop} (h : ta σ H fun x H1 => kB x H1 Q) : tTest ta σ H Q := h
def kN (x : V) (H : Hp) (Q : VK) : Prop := ∃ c, x = .bl c ∧ Q (.bl (!c)) H
theorem rd_kN {c : Bool} (h : Q (.bl (!c)) H) : kN (.bl c) H Q := ⟨c, rfl, h⟩
theorem rd_notV (h : ta σ H fun x H1 => kN x H1 Q) : tNotV ta σ H Q := h
theorem rd_not {Q : Bool → Hp → Prop} (h : tc σ H fun c H1 => Q (!c) H1) : tNot tc σ H Q := h
theorem rd_rEq {x y : V} (s : scal x y = true) (h : Q (.bl (decide (x = y))) H) : rEq x y H Q := ⟨s, h⟩
theorem rd_rNe {x y : V} (s : scal x y = true) (h : Q (.bl (!decide (x = y))) H) : rNe x y H Q := ⟨s, h⟩
theorem rd_call {sp : Sp} {dvs : List V} {E : XK} (h : l σ H fun vs H1 => sp (vs ++ dvs) H1 Q E) : tCall sp dvs E l σ H Q := h
theorem rd_cb {r : List V → Hp → VK → Prop} (h : l σ H fun vs H1 => ap3 r vs H1 Q) : tCB r l σ H Q := h
theorem rd_nil {Q : List V → Hp → Prop} (h : Q [] H) : tNil σ H Q := h
theorem rd_cons {Q : List V → Hp → Prop} (h : ta σ H fun x H1 => l σ H1 fun xs H2 => Q (x :: xs) H2) : tCons ta l σ H Q := h
theorem rd_tup (h : l σ H fun xs H1 => aTup xs H1 Q) : tTup l σ H Q := h
theorem rd_lst (h : l σ H fun xs H1 => aLst xs H1 Q) : tLst l σ H Q := h
theorem rd_sl {r : V → Option Int → Option Int → Hp → VK → Prop} {tl th : TO} (h : te σ H fun x H1 => tl σ H1 fun l H2 => th σ H2 fun u H3 => r x l u H3 Q) : tSl r te tl th σ H Q := h
theorem rd_np {Q : Option Int → Hp → Prop} (h : Q none H) : tNoPart σ H Q := h
def kI (x : V) (H : Hp) (Q : Option Int → Hp → Prop) : Prop := ∃ i, x = .int i ∧ Q (some i) H
theorem rd_kI {a : Int} {Q : Option Int → Hp → Prop} (h : Q (some a) H) : kI (.int a) H Q := ⟨a, rfl, h⟩
theorem rd_part {Q : Option Int → Hp → Prop} (h : te σ H fun x H1 => kI x H1 Q) : tPart te σ H Q := h
theorem rd_bm {T : String} {r : V → List V → Hp → VK → Prop} (h : te σ H fun x H1 => tyV K T x H1 ∧ l σ H1 fun xs H2 => r x xs H2 Q) : tBM K T r te l σ H Q := h
theorem rd_bm0 {T : String} {r : V → List V → Hp → VK → Prop} (h : te σ H fun x H1 => tyV K T x H1 ∧ r x [] H1 Q) : tBM0 K T r te σ H Q := h
theorem rd_il {R : It → Hp → Prop} (h : te σ H fun x H1 => ∃ a, x = .ref a ∧ (∃ xs, SqL K H1 a xs) ∧ R (Itl K a) H1) : iList K te σ H R := h
theorem rd_it {R : It → Hp → Prop} (h : te σ H fun x H1 => ∃ a, x = .ref a ∧ (∃ xs, SqT K H1 a xs) ∧ R (Itt K a) H1) : iTup K te σ H R := h
theorem rd_r1 {R : It → Hp → Prop} (h : l σ H fun vs H1 => ∃ j : Int, vs = [.int j] ∧ -(2 ^ 62) ≤ j ∧ j < 2 ^ 62 ∧ R (Itr 0 j.toNat) H1) : iRng1 l σ H R := h
theorem rd_r2 {R : It → Hp → Prop} (h : l σ H fun vs H1 => ∃ i j : Int, vs = [.int i, .int j] ∧ (-(2 ^ 62) ≤ i ∧ i < 2 ^ 62 ∧ -(2 ^ 62) ≤ j ∧ j < 2 ^ 62) ∧ R (Itr i (j - i).toNat) H1) : iRng2 l σ H R := h
-- statements
theorem rd_seq (h : t ⟨u D, D.rt, D.bk, D.ct⟩ σ H) : tSeq t u D σ H := h
theorem rd_nx {n b c : L2.St → Hp → Prop} {r : VK} (h : n σ H) : Ends.nx ⟨n, r, b, c⟩ σ H := h
theorem rd_next (h : D.nx σ H) : tNext D σ H := h
theorem rd_asg {g : TG} (h : te σ H fun x H1 => g x σ H1 D.nx) : tAsg te g D σ H := h
theorem rd_gn {Q : L2.St → Hp → Prop} (h : Q (σ.set i (some v)) H) : gName i v σ H Q := h
theorem rd_ret (h : te σ H D.rt) : tRet te D σ H := h
theorem rd_if (h : tc σ H fun b H1 => if b = true then t D σ H1 else u D σ H1) : tIfS tc t u D σ H := h
theorem rd_drop (h : te σ H fun _ H1 => D.nx σ H1) : tDrop te D σ H := h
def kp2 (i j : Nat) (vs : List V) (σ : L2.St) (H : Hp) (Q : L2.St → Hp → Prop) : Prop := ∃ v w, vs = [v, w] ∧ Q ((σ.set i (some v)).set j (some w)) H
theorem rd_kp2 {Q : L2.St → Hp → Prop} {a b : V} (h : Q ((σ.set i (some a)).set j (some b)) H) : kp2 i j [a, b] σ H Q := ⟨a, b, rfl, h⟩
theorem rd_par (h : l σ H fun vs H1 => kp2 i j vs σ H1 D.nx) : tPar i j l D σ H := h
def kp3 (i j k : Nat) (vs : List V) (σ : L2.St) (H : Hp) (Q : L2.St → Hp → Prop) : Prop := ∃ u v w, vs = [u, v, w] ∧ Q (((σ.set i (some u)).set j (some v)).set k (some w)) H
theorem rd_kp3 {Q : L2.St → Hp → Prop} {a b c : V} (h : Q (((σ.set i (some a)).set j (some b)).set k (some c)) H) : kp3 i j k [a, b, c] σ H Q := ⟨a, b, c, rfl, h⟩
theorem rd_par3 (h : l σ H fun vs H1 => kp3 i j k vs σ H1 D.nx) : tPar3 i j k l D σ H := h
theorem rd_aug {ti : TIp} (e : σ[i]? = some (some v)) (h : te σ H fun y H1 => ti v y H1 fun z H2 => D.nx (σ.set i (some z)) H2) : tAug i te ti D σ H := ⟨v, e, h⟩
theorem rd_for {wi : TI} {g : TG} {tb : TS} (h : wi σ H fun J H1 => ∃ W : Nat → Nat → L2.St → Hp → Prop, (∃ m, W 0 m σ H1) ∧ ∀ i m σ H, W i m σ H →
  (J.stop i H ∧ D.nx σ H) ∨ (J.go i H ∧ ∃ N : L2.St → Hp → Prop, (∀ σ' H', N σ' H' → ∃ m', m' < m ∧ W (i + 1) m' σ' H') ∧ ∀ x H', J.yld i H x H' → g x σ H' fun σ2 H2 => tb { D with nx := N, ct := N, bk := D.nx } σ2 H2)) : tFor wi g tb D σ H := h
theorem rd_gt {n : Nat} {g : TGs} {a : Addr} {xs : List V} {Q : L2.St → Hp → Prop} (h : SqT K H a xs) (e : xs.length = n) (q : g xs σ H Q) : gTup K n g (.ref a) σ H Q := ⟨a, xs, rfl, h, e, q⟩
theorem rd_gc {t : TG} {u : TGs} {xs : List V} {Q : L2.St → Hp → Prop} (h : t v σ H fun σ' H' => u xs σ' H' Q) : gCons t u (v :: xs) σ H Q := ⟨v, xs, rfl, h⟩
theorem rd_g0 {Q : L2.St → Hp → Prop} (h : Q σ H) : gNil [] σ H Q := ⟨rfl, h⟩
theorem rd_gs {to ti : TE} {st : TSet} {Q : L2.St → Hp → Prop} (h : to σ H fun o H1 => ti σ H1 fun i H2 => st o i v H2 fun H3 => Q σ H3) : gSub to ti st v σ H Q := h
end

section
variable {X : Cx}
theorem op_eqI : OpR X (compareOp .Eq) (rI0 fun i j => .bl (decide (i = j))) := opB0 fun _ _ _ _ _ _ _ q => eq_int (by rw [Bool.beq_eq_decide_eq]; exact q)
theorem op_neI : OpR X (compareOp .NotEq) (rI0 fun i j => .bl (!decide (i = j))) := opB0 fun _ _ _ _ _ _ _ q => ne_int (by rw [bne, Bool.beq_eq_decide_eq]; exact q)
end

theorem rd_lc {wi : TI} {g : TG} {tt : TT} {te : TE} {vs : List Nat} {σ : L2.St} {H : Hp} {Q : VK} (h : wi σ H fun J H1 => ∀ D, H1 D = none → ∃ W : Nat → Nat → Hp → Prop, (∃ m, W 0 m (upd H1 D (.lst []))) ∧ ∀ i m H, W i m H →
  (J.stop i H ∧ Q (.ref D) H) ∨ (J.go i H ∧ ∃ Nx : Hp → Prop, (∀ H', Nx H' → ∃ m', m' < m ∧ W (i + 1) m' H') ∧ ∀ x H', J.yld i H x H' → g x (wipe σ vs) H' fun σ2 H2 => wipe σ2 vs = wipe σ vs ∧ tt σ2 H2 fun b H3 =>
    if b = true then te σ2 H3 fun y H4 => ∃ acc, H4 D = some (.lst acc) ∧ acc.length < sizeLine ∧ Nx (upd H4 D (.lst (acc ++ [y]))) else Nx H3)) : tLc wi g tt te vs σ H Q := h
theorem rd_yes {σ : L2.St} {H : Hp} {Q : Bool → Hp → Prop} (h : Q true H) : tYes σ H Q := h

/-! ### isinstance; membership; is None -/
def rA : Rp V := fun _ x v => v = x
instance : Imm rA := ⟨fun _ h => h⟩
section
variable {α : Type} {K : PySem.W.Frag} {r : Rp α} {H : Hp} {Q : VK} {x : V} {a : Addr} {xs : List α} {S T : String} {b : Bool}
theorem isi_ty (hx : TyX K H x (.type S)) (e : kitB S T = some b) (q : Q (.bl b) H) : ap3 (rIsi K) [x, .ty T] H Q := ⟨x, .ty T, .type S, .type T, b, rfl, .ty T, hx, kit_ty e, q⟩
theorem ty_int {i : Int} : TyX K H (.int i) (.type "int") := .base (.int i)
theorem ty_bl {i : Bool} : TyX K H (.bl i) (.type "bool") := .base (.bl i)
theorem ty_str {i : Str} : TyX K H (.str i) (.type "str") := .base (.str i)
theorem ty_sqt {vs : List V} (h : SqT K H a vs) : TyX K H (.ref a) (.type "tuple") := by
  rcases h with (h | ⟨o, h⟩) | ⟨o, its, n, h, c, _⟩
  · exact .base (.tup h)
  · exact .fTuple h
  · exact .kTuple h c
theorem ty_T {v : V} (h : rT K r H xs v) : TyX K H v (.type "tuple") := by
  obtain ⟨a, rfl, vs, h1, _⟩ := h
  exact ty_sqt h1
theorem ty_P {β : Type} {s : Rp β} {p : α × β} {v : V} (h : rP K r s H p v) : TyX K H v (.type "tuple") := by
  obtain ⟨a, x, y, rfl, h, _⟩ := h
  exact ty_sqt h
theorem ty_L (h : Ls r H a xs) : TyX K H (.ref a) (.type "list") := by
  obtain ⟨vs, h1, _⟩ := h
  exact .base (.lst h1)
/-- a scalar of unknown kind -/
def scalV : V → Bool
  | .non => true | .bl _ => true | .int _ => true | .str _ => true
  | _ => false
def isIntV : V → Bool
  | .int _ => true | .bl _ => true
  | _ => false
def isBoolV : V → Bool
  | .bl _ => true
  | _ => false
theorem isi_intV (s : scalV x = true) (q : Q (.bl (isIntV x)) H) : ap3 (rIsi K) [x, .ty "int"] H Q := by
  cases x with
  | non => exact isi_ty (.base .non) (b := false) (by decide +kernel) q
  | bl i => exact isi_ty ty_bl (b := true) (by decide +kernel) q
  | int i => exact isi_ty ty_int (b := true) (by decide +kernel) q
  | str i => exact isi_ty ty_str (b := false) (by decide +kernel) q
  | _ => exact absurd (show false = true from s) Bool.false_ne_true
theorem isi_boolV (s : scalV x = true) (q : Q (.bl (isBoolV x)) H) : ap3 (rIsi K) [x, .ty "bool"] H Q := by
  cases x with
  | non => exact isi_ty (.base .non) (b := false) (by decide +kernel) q
  | bl i => exact isi_ty ty_bl (b := true) (by decide +kernel) q
  | int i => exact isi_ty ty_int (b := false) (by decide +kernel) q
  | str i => exact isi_ty ty_str (b := false) (by decide +kernel) q
  | _ => exact absurd (show false = true from s) Bool.false_ne_true
def rIsN : R2 := fun x y H Q => y = .non ∧ Q (.bl (decide (x = .non))) H
def rNotN : R2 := fun x y H Q => y = .non ∧ Q (.bl (!decide (x = .non))) H
theorem op_isN' {X : Cx} : OpR X (compareOp .Is) rIsN := op_isN
theorem op_notN' {X : Cx} : OpR X (compareOp .IsNot) rNotN := op_notN
theorem isN_opt {v : V} {o : Option α} (h : rO r H o v) (q : Q (.bl o.isNone) H) : rIsN v .non H Q := by
  refine ⟨rfl, ?_⟩
  cases o with
  | none =>
    rw [show v = V.non from h]
    exact q
  | some a =>
    rw [decide_eq_false h.1]
    exact q
theorem notN_opt {v : V} {o : Option α} (h : rO r H o v) (q : Q (.bl o.isSome) H) : rNotN v .non H Q := by
  refine ⟨rfl, ?_⟩
  cases o with
  | none =>
    rw [show v = V.non from h]
    exact q
  | some a =>
    rw [decide_eq_false h.1]
    exact q
end

section
variable {H : Hp} {Q : VK} {i j : Int}
theorem rd_abs (h : Q (.int (pabs i)) H) : ap3 (fun xs H Q => ∃ i, xs = [.int i] ∧ Q (.int (if i < 0 then -i else i)) H) [.int i] H Q := ⟨i, rfl, h⟩
theorem rd_int (h : Q (.int i) H) : ap3 (fun xs H Q => (∃ i, xs = [.int i] ∧ Q (.int i) H) ∨ ∃ k, xs = [.bl k] ∧ Q (.int (if k then 1 else 0)) H) [.int i] H Q := .inl ⟨i, rfl, h⟩
theorem rd_gcd (h : Q (.int (pgcd i j)) H) : ap3 rGcd [.int i, .int j] H Q := ⟨i, j, rfl, h⟩
theorem rd_ipI {f : Int → Int → Int} (h : Q (.int (f i j)) H) : ipI f (.int i) (.int j) H Q := ⟨i, j, rfl, rfl, h⟩
end

theorem cat_T {α : Type} {K : PySem.W.Frag} {r : Rp α} [Imm r] {H : Hp} {Q : VK} {xs ys : List α} {v w : V} (hx : rT K r H xs v) (hy : rT K r H ys w) (ne : xs.isEmpty = false) (l : lenOk (xs ++ ys)) (q : ∀ v H', Gr [] H H' → rT K r H' (xs ++ ys) v → Q v H') : rCatT K v w H Q := by
  obtain ⟨a, rfl, vs, h1, h2⟩ := hx
  obtain ⟨b, rfl, ws, h3, h4⟩ := hy
  refine ⟨a, b, vs, ws, rfl, rfl, h1, h3, ?_, ?_, ?_, ?_⟩
  · rintro rfl
    cases h2
    cases ne
  · rw [← Paired.length h2, ← Paired.length h4, ← List.length_append]
    exact l
  · rintro rfl
    cases h4
    rw [List.append_nil] at q
    exact q _ _ (Gr.refl H) ⟨a, rfl, vs, h1, h2⟩
  · intro _ p n
    exact q _ _ (Gr.new n) ⟨p, rfl, _, SqT.of upd_same, Paired.app (Paired.imm (Gr.new (A := []) n) h2) (Paired.imm (Gr.new (A := []) n) h4)⟩

section
variable {σ : L2.St} {H : Hp} {E : Er → Prop}
theorem ev_and3 {t0 t1 t2 : TT} {m0 m1 m2 : R Bool} (h0 : EvT t0 σ H m0 E) (h1 : ∀ H', Gr [] H H' → EvT t1 σ H' m1 E) (h2 : ∀ H', Gr [] H H' → EvT t2 σ H' m2 E) : EvT (tAnd t0 (tAnd t1 t2)) σ H (andR m0 (andR m1 m2)) E := ev_and h0 (fun H1 g1 => ev_and (h1 H1 g1) (fun H2 k2 => (have g2 := g1.trans k2; h2 H2 g2)))
theorem ev_and4 {t0 t1 t2 t3 : TT} {m0 m1 m2 m3 : R Bool} (h0 : EvT t0 σ H m0 E) (h1 : ∀ H', Gr [] H H' → EvT t1 σ H' m1 E) (h2 : ∀ H', Gr [] H H' → EvT t2 σ H' m2 E) (h3 : ∀ H', Gr [] H H' → EvT t3 σ H' m3 E) : EvT (tAnd t0 (tAnd t1 (tAnd t2 t3))) σ H (andR m0 (andR m1 (andR m2 m3))) E := ev_and h0 (fun H1 g1 => ev_and (h1 H1 g1) (fun H2 k2 => (have g2 := g1.trans k2; ev_and (h2 H2 g2) (fun H3 k3 => (have g3 := g2.trans k3; h3 H3 g3)))))
theorem ev_and5 {t0 t1 t2 t3 t4 : TT} {m0 m1 m2 m3 m4 : R Bool} (h0 : EvT t0 σ H m0 E) (h1 : ∀ H', Gr [] H H' → EvT t1 σ H' m1 E) (h2 : ∀ H', Gr [] H H' → EvT t2 σ H' m2 E) (h3 : ∀ H', Gr [] H H' → EvT t3 σ H' m3 E) (h4 : ∀ H', Gr [] H H' → EvT t4 σ H' m4 E) : EvT (tAnd t0 (tAnd t1 (tAnd t2 (tAnd t3 t4)))) σ H (andR m0 (andR m1 (andR m2 (andR m3 m4)))) E := ev_and h0 (fun H1 g1 => ev_and (h1 H1 g1) (fun H2 k2 => (have g2 := g1.trans k2; ev_and (h2 H2 g2) (fun H3 k3 => (have g3 := g2.trans k3; ev_and (h3 H3 g3) (fun H4 k4 => (have g4 := g3.trans k4; h4 H4 g4)))))))
theorem ev_and6 {t0 t1 t2 t3 t4 t5 : TT} {m0 m1 m2 m3 m4 m5 : R Bool} (h0 : EvT t0 σ H m0 E) (h1 : ∀ H', Gr [] H H' → EvT t1 σ H' m1 E) (h2 : ∀ H', Gr [] H H' → EvT t2 σ H' m2 E) (h3 : ∀ H', Gr [] H H' → EvT t3 σ H' m3 E) (h4 : ∀ H', Gr [] H H' → EvT t4 σ H' m4 E) (h5 : ∀ H', Gr [] H H' → EvT t5 σ H' m5 E) : EvT (tAnd t0 (tAnd t1 (tAnd t2 (tAnd t3 (tAnd t4 t5))))) σ H (andR m0 (andR m1 (andR m2 (andR m3 (andR m4 m5))))) E := ev_and h0 (fun H1 g1 => ev_and (h1 H1 g1) (fun H2 k2 => (have g2 := g1.trans k2; ev_and (h2 H2 g2) (fun H3 k3 => (have g3 := g2.trans k3; ev_and (h3 H3 g3) (fun H4 k4 => (have g4 := g3.trans k4; ev_and (h4 H4 g4) (fun H5 k5 => (have g5 := g4.trans k5; h5 H5 g5)))))))))
theorem ev_and7 {t0 t1 t2 t3 t4 t5 t6 : TT} {m0 m1 m2 m3 m4 m5 m6 : R Bool} (h0 : EvT t0 σ H m0 E) (h1 : ∀ H', Gr [] H H' → EvT t1 σ H' m1 E) (h2 : ∀ H', Gr [] H H' → EvT t2 σ H' m2 E) (h3 : ∀ H', Gr [] H H' → EvT t3 σ H' m3 E) (h4 : ∀ H', Gr [] H H' → EvT t4 σ H' m4 E) (h5 : ∀ H', Gr [] H H' → EvT t5 σ H' m5 E) (h6 : ∀ H', Gr [] H H' → EvT t6 σ H' m6 E) : EvT (tAnd t0 (tAnd t1 (tAnd t2 (tAnd t3 (tAnd t4 (tAnd t5 t6)))))) σ H (andR m0 (andR m1 (andR m2 (andR m3 (andR m4 (andR m5 m6)))))) E := ev_and h0 (fun H1 g1 => ev_and (h1 H1 g1) (fun H2 k2 => (have g2 := g1.trans k2; ev_and (h2 H2 g2) (fun H3 k3 => (have g3 := g2.trans k3; ev_and (h3 H3 g3) (fun H4 k4 => (have g4 := g3.trans k4; ev_and (h4 H4 g4) (fun H5 k5 => (have g5 := g4.trans k5; ev_and (h5 H5 g5) (fun H6 k6 => (have g6 := g5.trans k6; h6 H6 g6)))))))))))
theorem ev_and8 {t0 t1 t2 t3 t4 t5 t6 t7 : TT} {m0 m1 m2 m3 m4 m5 m6 m7 : R Bool} (h0 : EvT t0 σ H m0 E) (h1 : ∀ H', Gr [] H H' → EvT t1 σ H' m1 E) (h2 : ∀ H', Gr [] H H' → EvT t2 σ H' m2 E) (h3 : ∀ H', Gr [] H H' → EvT t3 σ H' m3 E) (h4 : ∀ H', Gr [] H H' → EvT t4 σ H' m4 E) (h5 : ∀ H', Gr [] H H' → EvT t5 σ H' m5 E) (h6 : ∀ H', Gr [] H H' → EvT t6 σ H' m6 E) (h7 : ∀ H', Gr [] H H' → EvT t7 σ H' m7 E) : EvT (tAnd t0 (tAnd t1 (tAnd t2 (tAnd t3 (tAnd t4 (tAnd t5 (tAnd t6 t7))))))) σ H (andR m0 (andR m1 (andR m2 (andR m3 (andR m4 (andR m5 (andR m6 m7))))))) E := ev_and h0 (fun H1 g1 => ev_and (h1 H1 g1) (fun H2 k2 => (have g2 := g1.trans k2; ev_and (h2 H2 g2) (fun H3 k3 => (have g3 := g2.trans k3; ev_and (h3 H3 g3) (fun H4 k4 => (have g4 := g3.trans k4; ev_and (h4 H4 g4) (fun H5 k5 => (have g5 := g4.trans k5; ev_and (h5 H5 g5) (fun H6 k6 => (have g6 := g5.trans k6; ev_and (h6 H6 g6) (fun H7 k7 => (have g7 := g6.trans k7; h7 H7 g7)))))))))))))
theorem ev_and9 {t0 t1 t2 t3 t4 t5 t6 t7 t8 : TT} {m0 m1 m2 m3 m4 m5 m6 m7 m8 : R Bool} (h0 : EvT t0 σ H m0 E) (h1 : ∀ H', Gr [] H H' → EvT t1 σ H' m1 E) (h2 : ∀ H', Gr [] H H' → EvT t2 σ H' m2 E) (h3 : ∀ H', Gr [] H H' → EvT t3 σ H' m3 E) (h4 : ∀ H', Gr [] H H' → EvT t4 σ H' m4 E) (h5 : ∀ H', Gr [] H H' → EvT t5 σ H' m5 E) (h6 : ∀ H', Gr [] H H' → EvT t6 σ H' m6 E) (h7 : ∀ H', Gr [] H H' → EvT t7 σ H' m7 E) (h8 : ∀ H', Gr [] H H' → EvT t8 σ H' m8 E) : EvT (tAnd t0 (tAnd t1 (tAnd t2 (tAnd t3 (tAnd t4 (tAnd t5 (tAnd t6 (tAnd t7 t8)))))))) σ H (andR m0 (andR m1 (andR m2 (andR m3 (andR m4 (andR m5 (andR m6 (andR m7 m8)))))))) E := ev_and h0 (fun H1 g1 => ev_and (h1 H1 g1) (fun H2 k2 => (have g2 := g1.trans k2; ev_and (h2 H2 g2) (fun H3 k3 => (have g3 := g2.trans k3; ev_and (h3 H3 g3) (fun H4 k4 => (have g4 := g3.trans k4; ev_and (h4 H4 g4) (fun H5 k5 => (have g5 := g4.trans k5; ev_and (h5 H5 g5) (fun H6 k6 => (have g6 := g5.trans k6; ev_and (h6 H6 g6) (fun H7 k7 => (have g7 := g6.trans k7; ev_and (h7 H7 g7) (fun H8 k8 => (have g8 := g7.trans k8; h8 H8 g8)))))))))))))))
theorem ev_andV3 {t0 t1 t2 : TE} {m0 m1 m2 : R Bool} (h0 : EvV rB t0 σ H m0 E) (h1 : ∀ H', Gr [] H H' → EvV rB t1 σ H' m1 E) (h2 : ∀ H', Gr [] H H' → EvV rB t2 σ H' m2 E) : EvV rB (tAndV t0 (tAndV t1 t2)) σ H (andR m0 (andR m1 m2)) E := ev_andV h0 (fun H1 g1 => ev_andV (h1 H1 g1) (fun H2 k2 => (have g2 := g1.trans k2; h2 H2 g2)))
theorem ev_andV4 {t0 t1 t2 t3 : TE} {m0 m1 m2 m3 : R Bool} (h0 : EvV rB t0 σ H m0 E) (h1 : ∀ H', Gr [] H H' → EvV rB t1 σ H' m1 E) (h2 : ∀ H', Gr [] H H' → EvV rB t2 σ H' m2 E) (h3 : ∀ H', Gr [] H H' → EvV rB t3 σ H' m3 E) : EvV rB (tAndV t0 (tAndV t1 (tAndV t2 t3))) σ H (andR m0 (andR m1 (andR m2 m3))) E := ev_andV h0 (fun H1 g1 => ev_andV (h1 H1 g1) (fun H2 k2 => (have g2 := g1.trans k2; ev_andV (h2 H2 g2) (fun H3 k3 => (have g3 := g2.trans k3; h3 H3 g3)))))
theorem ev_andV5 {t0 t1 t2 t3 t4 : TE} {m0 m1 m2 m3 m4 : R Bool} (h0 : EvV rB t0 σ H m0 E) (h1 : ∀ H', Gr [] H H' → EvV rB t1 σ H' m1 E) (h2 : ∀ H', Gr [] H H' → EvV rB t2 σ H' m2 E) (h3 : ∀ H', Gr [] H H' → EvV rB t3 σ H' m3 E) (h4 : ∀ H', Gr [] H H' → EvV rB t4 σ H' m4 E) : EvV rB (tAndV t0 (tAndV t1 (tAndV t2 (tAndV t3 t4)))) σ H (andR m0 (andR m1 (andR m2 (andR m3 m4)))) E := ev_andV h0 (fun H1 g1 => ev_andV (h1 H1 g1) (fun H2 k2 => (have g2 := g1.trans k2; ev_andV (h2 H2 g2) (fun H3 k3 => (have g3 := g2.trans k3; ev_andV (h3 H3 g3) (fun H4 k4 => (have g4 := g3.trans k4; h4 H4 g4)))))))
theorem ev_andV6 {t0 t1 t2 t3 t4 t5 : TE} {m0 m1 m2 m3 m4 m5 : R Bool} (h0 : EvV rB t0 σ H m0 E) (h1 : ∀ H', Gr [] H H' → EvV rB t1 σ H' m1 E) (h2 : ∀ H', Gr [] H H' → EvV rB t2 σ H' m2 E) (h3 : ∀ H', Gr [] H H' → EvV rB t3 σ H' m3 E) (h4 : ∀ H', Gr [] H H' → EvV rB t4 σ H' m4 E) (h5 : ∀ H', Gr [] H H' → EvV rB t5 σ H' m5 E) : EvV rB (tAndV t0 (tAndV t1 (tAndV t2 (tAndV t3 (tAndV t4 t5))))) σ H (andR m0 (andR m1 (andR m2 (andR m3 (andR m4 m5))))) E := ev_andV h0 (fun H1 g1 => ev_andV (h1 H1 g1) (fun H2 k2 => (have g2 := g1.trans k2; ev_andV (h2 H2 g2) (fun H3 k3 => (have g3 := g2.trans k3; ev_andV (h3 H3 g3) (fun H4 k4 => (have g4 := g3.trans k4; ev_andV (h4 H4 g4) (fun H5 k5 => (have g5 := g4.trans k5; h5 H5 g5)))))))))
theorem ev_andV7 {t0 t1 t2 t3 t4 t5 t6 : TE} {m0 m1 m2 m3 m4 m5 m6 : R Bool} (h0 : EvV rB t0 σ H m0 E) (h1 : ∀ H', Gr [] H H' → EvV rB t1 σ H' m1 E) (h2 : ∀ H', Gr [] H H' → EvV rB t2 σ H' m2 E) (h3 : ∀ H', Gr [] H H' → EvV rB t3 σ H' m3 E) (h4 : ∀ H', Gr [] H H' → EvV rB t4 σ H' m4 E) (h5 : ∀ H', Gr [] H H' → EvV rB t5 σ H' m5 E) (h6 : ∀ H', Gr [] H H' → EvV rB t6 σ H' m6 E) : EvV rB (tAndV t0 (tAndV t1 (tAndV t2 (tAndV t3 (tAndV t4 (tAndV t5 t6)))))) σ H (andR m0 (andR m1 (andR m2 (andR m3 (andR m4 (andR m5 m6)))))) E := ev_andV h0 (fun H1 g1 => ev_andV (h1 H1 g1) (fun H2 k2 => (have g2 := g1.trans k2; ev_andV (h2 H2 g2) (fun H3 k3 => (have g3 := g2.trans k3; ev_andV (h3 H3 g3) (fun H4 k4 => (have g4 := g3.trans k4; ev_andV (h4 H4 g4) (fun H5 k5 => (have g5 := g4.trans k5; ev_andV (h5 H5 g5) (fun H6 k6 => (have g6 := g5.trans k6; h6 H6 g6)))))))))))
theorem ev_andV8 {t0 t1 t2 t3 t4 t5 t6 t7 : TE} {m0 m1 m2 m3 m4 m5 m6 m7 : R Bool} (h0 : EvV rB t0 σ H m0 E) (h1 : ∀ H', Gr [] H H' → EvV rB t1 σ H' m1 E) (h2 : ∀ H', Gr [] H H' → EvV rB t2 σ H' m2 E) (h3 : ∀ H', Gr [] H H' → EvV rB t3 σ H' m3 E) (h4 : ∀ H', Gr [] H H' → EvV rB t4 σ H' m4 E) (h5 : ∀ H', Gr [] H H' → EvV rB t5 σ H' m5 E) (h6 : ∀ H', Gr [] H H' → EvV rB t6 σ H' m6 E) (h7 : ∀ H', Gr [] H H' → EvV rB t7 σ H' m7 E) : EvV rB (tAndV t0 (tAndV t1 (tAndV t2 (tAndV t3 (tAndV t4 (tAndV t5 (tAndV t6 t7))))))) σ H (andR m0 (andR m1 (andR m2 (andR m3 (andR m4 (andR m5 (andR m6 m7))))))) E := ev_andV h0 (fun H1 g1 => ev_andV (h1 H1 g1) (fun H2 k2 => (have g2 := g1.trans k2; ev_andV (h2 H2 g2) (fun H3 k3 => (have g3 := g2.trans k3; ev_andV (h3 H3 g3) (fun H4 k4 => (have g4 := g3.trans k4; ev_andV (h4 H4 g4) (fun H5 k5 => (have g5 := g4.trans k5; ev_andV (h5 H5 g5) (fun H6 k6 => (have g6 := g5.trans k6; ev_andV (h6 H6 g6) (fun H7 k7 => (have g7 := g6.trans k7; h7 H7 g7)))))))))))))
theorem ev_andV9 {t0 t1 t2 t3 t4 t5 t6 t7 t8 : TE} {m0 m1 m2 m3 m4 m5 m6 m7 m8 : R Bool} (h0 : EvV rB t0 σ H m0 E) (h1 : ∀ H', Gr [] H H' → EvV rB t1 σ H' m1 E) (h2 : ∀ H', Gr [] H H' → EvV rB t2 σ H' m2 E) (h3 : ∀ H', Gr [] H H' → EvV rB t3 σ H' m3 E) (h4 : ∀ H', Gr [] H H' → EvV rB t4 σ H' m4 E) (h5 : ∀ H', Gr [] H H' → EvV rB t5 σ H' m5 E) (h6 : ∀ H', Gr [] H H' → EvV rB t6 σ H' m6 E) (h7 : ∀ H', Gr [] H H' → EvV rB t7 σ H' m7 E) (h8 : ∀ H', Gr [] H H' → EvV rB t8 σ H' m8 E) : EvV rB (tAndV t0 (tAndV t1 (tAndV t2 (tAndV t3 (tAndV t4 (tAndV t5 (tAndV t6 (tAndV t7 t8)))))))) σ H (andR m0 (andR m1 (andR m2 (andR m3 (andR m4 (andR m5 (andR m6 (andR m7 m8)))))))) E := ev_andV h0 (fun H1 g1 => ev_andV (h1 H1 g1) (fun H2 k2 => (have g2 := g1.trans k2; ev_andV (h2 H2 g2) (fun H3 k3 => (have g3 := g2.trans k3; ev_andV (h3 H3 g3) (fun H4 k4 => (have g4 := g3.trans k4; ev_andV (h4 H4 g4) (fun H5 k5 => (have g5 := g4.trans k5; ev_andV (h5 H5 g5) (fun H6 k6 => (have g6 := g5.trans k6; ev_andV (h6 H6 g6) (fun H7 k7 => (have g7 := g6.trans k7; ev_andV (h7 H7 g7) (fun H8 k8 => (have g8 := g7.trans k8; h8 H8 g8)))))))))))))))
theorem ev_or3 {t0 t1 t2 : TT} {m0 m1 m2 : R Bool} (h0 : EvT t0 σ H m0 E) (h1 : ∀ H', Gr [] H H' → EvT t1 σ H' m1 E) (h2 : ∀ H', Gr [] H H' → EvT t2 σ H' m2 E) : EvT (tOr t0 (tOr t1 t2)) σ H (orR m0 (orR m1 m2)) E := ev_or h0 (fun H1 g1 => ev_or (h1 H1 g1) (fun H2 k2 => (have g2 := g1.trans k2; h2 H2 g2)))
theorem ev_or4 {t0 t1 t2 t3 : TT} {m0 m1 m2 m3 : R Bool} (h0 : EvT t0 σ H m0 E) (h1 : ∀ H', Gr [] H H' → EvT t1 σ H' m1 E) (h2 : ∀ H', Gr [] H H' → EvT t2 σ H' m2 E) (h3 : ∀ H', Gr [] H H' → EvT t3 σ H' m3 E) : EvT (tOr t0 (tOr t1 (tOr t2 t3))) σ H (orR m0 (orR m1 (orR m2 m3))) E := ev_or h0 (fun H1 g1 => ev_or (h1 H1 g1) (fun H2 k2 => (have g2 := g1.trans k2; ev_or (h2 H2 g2) (fun H3 k3 => (have g3 := g2.trans k3; h3 H3 g3)))))
theorem ev_or5 {t0 t1 t2 t3 t4 : TT} {m0 m1 m2 m3 m4 : R Bool} (h0 : EvT t0 σ H m0 E) (h1 : ∀ H', Gr [] H H' → EvT t1 σ H' m1 E) (h2 : ∀ H', Gr [] H H' → EvT t2 σ H' m2 E) (h3 : ∀ H', Gr [] H H' → EvT t3 σ H' m3 E) (h4 : ∀ H', Gr [] H H' → EvT t4 σ H' m4 E) : EvT (tOr t0 (tOr t1 (tOr t2 (tOr t3 t4)))) σ H (orR m0 (orR m1 (orR m2 (orR m3 m4)))) E := ev_or h0 (fun H1 g1 => ev_or (h1 H1 g1) (fun H2 k2 => (have g2 := g1.trans k2; ev_or (h2 H2 g2) (fun H3 k3 => (have g3 := g2.trans k3; ev_or (h3 H3 g3) (fun H4 k4 => (have g4 := g3.trans k4; h4 H4 g4)))))))
theorem ev_or6 {t0 t1 t2 t3 t4 t5 : TT} {m0 m1 m2 m3 m4 m5 : R Bool} (h0 : EvT t0 σ H m0 E) (h1 : ∀ H', Gr [] H H' → EvT t1 σ H' m1 E) (h2 : ∀ H', Gr [] H H' → EvT t2 σ H' m2 E) (h3 : ∀ H', Gr [] H H' → EvT t3 σ H' m3 E) (h4 : ∀ H', Gr [] H H' → EvT t4 σ H' m4 E) (h5 : ∀ H', Gr [] H H' → EvT t5 σ H' m5 E) : EvT (tOr t0 (tOr t1 (tOr t2 (tOr t3 (tOr t4 t5))))) σ H (orR m0 (orR m1 (orR m2 (orR m3 (orR m4 m5))))) E := ev_or h0 (fun H1 g1 => ev_or (h1 H1 g1) (fun H2 k2 => (have g2 := g1.trans k2; ev_or (h2 H2 g2) (fun H3 k3 => (have g3 := g2.trans k3; ev_or (h3 H3 g3) (fun H4 k4 => (have g4 := g3.trans k4; ev_or (h4 H4 g4) (fun H5 k5 => (have g5 := g4.trans k5; h5 H5 g5)))))))))
theorem ev_or7 {t0 t1 t2 t3 t4 t5 t6 : TT} {m0 m1 m2 m3 m4 m5 m6 : R Bool} (h0 : EvT t0 σ H m0 E) (h1 : ∀ H', Gr [] H H' → EvT t1 σ H' m1 E) (h2 : ∀ H', Gr [] H H' → EvT t2 σ H' m2 E) (h3 : ∀ H', Gr [] H H' → EvT t3 σ H' m3 E) (h4 : ∀ H', Gr [] H H' → EvT t4 σ H' m4 E) (h5 : ∀ H', Gr [] H H' → EvT t5 σ H' m5 E) (h6 : ∀ H', Gr [] H H' → EvT t6 σ H' m6 E) : EvT (tOr t0 (tOr t1 (tOr t2 (tOr t3 (tOr t4 (tOr t5 t6)))))) σ H (orR m0 (orR m1 (orR m2 (orR m3 (orR m4 (orR m5 m6)))))) E := ev_or h0 (fun H1 g1 => ev_or (h1 H1 g1) (fun H2 k2 => (have g2 := g1.trans k2; ev_or (h2 H2 g2) (fun H3 k3 => (have g3 := g2.trans k3; ev_or (h3 H3 g3) (fun H4 k4 => (have g4 := g3.trans k4; ev_or (h4 H4 g4) (fun H5 k5 => (have g5 := g4.trans k5; ev_or (h5 H5 g5) (fun H6 k6 => (have g6 := g5.trans k6; h6 H6 g6)))))))))))
theorem ev_or8 {t0 t1 t2 t3 t4 t5 t6 t7 : TT} {m0 m1 m2 m3 m4 m5 m6 m7 : R Bool} (h0 : EvT t0 σ H m0 E) (h1 : ∀ H', Gr [] H H' → EvT t1 σ H' m1 E) (h2 : ∀ H', Gr [] H H' → EvT t2 σ H' m2 E) (h3 : ∀ H', Gr [] H H' → EvT t3 σ H' m3 E) (h4 : ∀ H', Gr [] H H' → EvT t4 σ H' m4 E) (h5 : ∀ H', Gr [] H H' → EvT t5 σ H' m5 E) (h6 : ∀ H', Gr [] H H' → EvT t6 σ H' m6 E) (h7 : ∀ H', Gr [] H H' → EvT t7 σ H' m7 E) : EvT (tOr t0 (tOr t1 (tOr t2 (tOr t3 (tOr t4 (tOr t5 (tOr t6 t7))))))) σ H (orR m0 (orR m1 (orR m2 (orR m3 (orR m4 (orR m5 (orR m6 m7))))))) E := ev_or h0 (fun H1 g1 => ev_or (h1 H1 g1) (fun H2 k2 => (have g2 := g1.trans k2; ev_or (h2 H2 g2) (fun H3 k3 => (have g3 := g2.trans k3; ev_or (h3 H3 g3) (fun H4 k4 => (have g4 := g3.trans k4; ev_or (h4 H4 g4) (fun H5 k5 => (have g5 := g4.trans k5; ev_or (h5 H5 g5) (fun H6 k6 => (have g6 := g5.trans k6; ev_or (h6 H6 g6) (fun H7 k7 => (have g7 := g6.trans k7; h7 H7 g7)))))))))))))
theorem ev_or9 {t0 t1 t2 t3 t4 t5 t6 t7 t8 : TT} {m0 m1 m2 m3 m4 m5 m6 m7 m8 : R Bool} (h0 : EvT t0 σ H m0 E) (h1 : ∀ H', Gr [] H H' → EvT t1 σ H' m1 E) (h2 : ∀ H', Gr [] H H' → EvT t2 σ H' m2 E) (h3 : ∀ H', Gr [] H H' → EvT t3 σ H' m3 E) (h4 : ∀ H', Gr [] H H' → EvT t4 σ H' m4 E) (h5 : ∀ H', Gr [] H H' → EvT t5 σ H' m5 E) (h6 : ∀ H', Gr [] H H' → EvT t6 σ H' m6 E) (h7 : ∀ H', Gr [] H H' → EvT t7 σ H' m7 E) (h8 : ∀ H', Gr [] H H' → EvT t8 σ H' m8 E) : EvT (tOr t0 (tOr t1 (tOr t2 (tOr t3 (tOr t4 (tOr t5 (tOr t6 (tOr t7 t8)))))))) σ H (orR m0 (orR m1 (orR m2 (orR m3 (orR m4 (orR m5 (orR m6 (orR m7 m8)))))))) E := ev_or h0 (fun H1 g1 => ev_or (h1 H1 g1) (fun H2 k2 => (have g2 := g1.trans k2; ev_or (h2 H2 g2) (fun H3 k3 => (have g3 := g2.trans k3; ev_or (h3 H3 g3) (fun H4 k4 => (have g4 := g3.trans k4; ev_or (h4 H4 g4) (fun H5 k5 => (have g5 := g4.trans k5; ev_or (h5 H5 g5) (fun H6 k6 => (have g6 := g5.trans k6; ev_or (h6 H6 g6) (fun H7 k7 => (have g7 := g6.trans k7; ev_or (h7 H7 g7) (fun H8 k8 => (have g8 := g7.trans k8; h8 H8 g8)))))))))))))))
theorem ev_orV3 {t0 t1 t2 : TE} {m0 m1 m2 : R Bool} (h0 : EvV rB t0 σ H m0 E) (h1 : ∀ H', Gr [] H H' → EvV rB t1 σ H' m1 E) (h2 : ∀ H', Gr [] H H' → EvV rB t2 σ H' m2 E) : EvV rB (tOrV t0 (tOrV t1 t2)) σ H (orR m0 (orR m1 m2)) E := ev_orV h0 (fun H1 g1 => ev_orV (h1 H1 g1) (fun H2 k2 => (have g2 := g1.trans k2; h2 H2 g2)))
theorem ev_orV4 {t0 t1 t2 t3 : TE} {m0 m1 m2 m3 : R Bool} (h0 : EvV rB t0 σ H m0 E) (h1 : ∀ H', Gr [] H H' → EvV rB t1 σ H' m1 E) (h2 : ∀ H', Gr [] H H' → EvV rB t2 σ H' m2 E) (h3 : ∀ H', Gr [] H H' → EvV rB t3 σ H' m3 E) : EvV rB (tOrV t0 (tOrV t1 (tOrV t2 t3))) σ H (orR m0 (orR m1 (orR m2 m3))) E := ev_orV h0 (fun H1 g1 => ev_orV (h1 H1 g1) (fun H2 k2 => (have g2 := g1.trans k2; ev_orV (h2 H2 g2) (fun H3 k3 => (have g3 := g2.trans k3; h3 H3 g3)))))
theorem ev_orV5 {t0 t1 t2 t3 t4 : TE} {m0 m1 m2 m3 m4 : R Bool} (h0 : EvV rB t0 σ H m0 E) (h1 : ∀ H', Gr [] H H' → EvV rB t1 σ H' m1 E) (h2 : ∀ H', Gr [] H H' → EvV rB t2 σ H' m2 E) (h3 : ∀ H', Gr [] H H' → EvV rB t3 σ H' m3 E) (h4 : ∀ H', Gr [] H H' → EvV rB t4 σ H' m4 E) : EvV rB (tOrV t0 (tOrV t1 (tOrV t2 (tOrV t3 t4)))) σ H (orR m0 (orR m1 (orR m2 (orR m3 m4)))) E := ev_orV h0 (fun H1 g1 => ev_orV (h1 H1 g1) (fun H2 k2 => (have g2 := g1.trans k2; ev_orV (h2 H2 g2) (fun H3 k3 => (have g3 := g2.trans k3; ev_orV (h3 H3 g3) (fun H4 k4 => (have g4 := g3.trans k4; h4 H4 g4)))))))
theorem ev_orV6 {t0 t1 t2 t3 t4 t5 : TE} {m0 m1 m2 m3 m4 m5 : R Bool} (h0 : EvV rB t0 σ H m0 E) (h1 : ∀ H', Gr [] H H' → EvV rB t1 σ H' m1 E) (h2 : ∀ H', Gr [] H H' → EvV rB t2 σ H' m2 E) (h3 : ∀ H', Gr [] H H' → EvV rB t3 σ H' m3 E) (h4 : ∀ H', Gr [] H H' → EvV rB t4 σ H' m4 E) (h5 : ∀ H', Gr [] H H' → EvV rB t5 σ H' m5 E) : EvV rB (tOrV t0 (tOrV t1 (tOrV t2 (tOrV t3 (tOrV t4 t5))))) σ H (orR m0 (orR m1 (orR m2 (orR m3 (orR m4 m5))))) E := ev_orV h0 (fun H1 g1 => ev_orV (h1 H1 g1) (fun H2 k2 => (have g2 := g1.trans k2; ev_orV (h2 H2 g2) (fun H3 k3 => (have g3 := g2.trans k3; ev_orV (h3 H3 g3) (fun H4 k4 => (have g4 := g3.trans k4; ev_orV (h4 H4 g4) (fun H5 k5 => (have g5 := g4.trans k5; h5 H5 g5)))))))))
theorem ev_orV7 {t0 t1 t2 t3 t4 t5 t6 : TE} {m0 m1 m2 m3 m4 m5 m6 : R Bool} (h0 : EvV rB t0 σ H m0 E) (h1 : ∀ H', Gr [] H H' → EvV rB t1 σ H' m1 E) (h2 : ∀ H', Gr [] H H' → EvV rB t2 σ H' m2 E) (h3 : ∀ H', Gr [] H H' → EvV rB t3 σ H' m3 E) (h4 : ∀ H', Gr [] H H' → EvV rB t4 σ H' m4 E) (h5 : ∀ H', Gr [] H H' → EvV rB t5 σ H' m5 E) (h6 : ∀ H', Gr [] H H' → EvV rB t6 σ H' m6 E) : EvV rB (tOrV t0 (tOrV t1 (tOrV t2 (tOrV t3 (tOrV t4 (tOrV t5 t6)))))) σ H (orR m0 (orR m1 (orR m2 (orR m3 (orR m4 (orR m5 m6)))))) E := ev_orV h0 (fun H1 g1 => ev_orV (h1 H1 g1) (fun H2 k2 => (have g2 := g1.trans k2; ev_orV (h2 H2 g2) (fun H3 k3 => (have g3 := g2.trans k3; ev_orV (h3 H3 g3) (fun H4 k4 => (have g4 := g3.trans k4; ev_orV (h4 H4 g4) (fun H5 k5 => (have g5 := g4.trans k5; ev_orV (h5 H5 g5) (fun H6 k6 => (have g6 := g5.trans k6; h6 H6 g6)))))))))))
theorem ev_orV8 {t0 t1 t2 t3 t4 t5 t6 t7 : TE} {m0 m1 m2 m3 m4 m5 m6 m7 : R Bool} (h0 : EvV rB t0 σ H m0 E) (h1 : ∀ H', Gr [] H H' → EvV rB t1 σ H' m1 E) (h2 : ∀ H', Gr [] H H' → EvV rB t2 σ H' m2 E) (h3 : ∀ H', Gr [] H H' → EvV rB t3 σ H' m3 E) (h4 : ∀ H', Gr [] H H' → EvV rB t4 σ H' m4 E) (h5 : ∀ H', Gr [] H H' → EvV rB t5 σ H' m5 E) (h6 : ∀ H', Gr [] H H' → EvV rB t6 σ H' m6 E) (h7 : ∀ H', Gr [] H H' → EvV rB t7 σ H' m7 E) : EvV rB (tOrV t0 (tOrV t1 (tOrV t2 (tOrV t3 (tOrV t4 (tOrV t5 (tOrV t6 t7))))))) σ H (orR m0 (orR m1 (orR m2 (orR m3 (orR m4 (orR m5 (orR m6 m7))))))) E := ev_orV h0 (fun H1 g1 => ev_orV (h1 H1 g1) (fun H2 k2 => (have g2 := g1.trans k2; ev_orV (h2 H2 g2) (fun H3 k3 => (have g3 := g2.trans k3; ev_orV (h3 H3 g3) (fun H4 k4 => (have g4 := g3.trans k4; ev_orV (h4 H4 g4) (fun H5 k5 => (have g5 := g4.trans k5; ev_orV (h5 H5 g5) (fun H6 k6 => (have g6 := g5.trans k6; ev_orV (h6 H6 g6) (fun H7 k7 => (have g7 := g6.trans k7; h7 H7 g7)))))))))))))
theorem ev_orV9 {t0 t1 t2 t3 t4 t5 t6 t7 t8 : TE} {m0 m1 m2 m3 m4 m5 m6 m7 m8 : R Bool} (h0 : EvV rB t0 σ H m0 E) (h1 : ∀ H', Gr [] H H' → EvV rB t1 σ H' m1 E) (h2 : ∀ H', Gr [] H H' → EvV rB t2 σ H' m2 E) (h3 : ∀ H', Gr [] H H' → EvV rB t3 σ H' m3 E) (h4 : ∀ H', Gr [] H H' → EvV rB t4 σ H' m4 E) (h5 : ∀ H', Gr [] H H' → EvV rB t5 σ H' m5 E) (h6 : ∀ H', Gr [] H H' → EvV rB t6 σ H' m6 E) (h7 : ∀ H', Gr [] H H' → EvV rB t7 σ H' m7 E) (h8 : ∀ H', Gr [] H H' → EvV rB t8 σ H' m8 E) : EvV rB (tOrV t0 (tOrV t1 (tOrV t2 (tOrV t3 (tOrV t4 (tOrV t5 (tOrV t6 (tOrV t7 t8)))))))) σ H (orR m0 (orR m1 (orR m2 (orR m3 (orR m4 (orR m5 (orR m6 (orR m7 m8)))))))) E := ev_orV h0 (fun H1 g1 => ev_orV (h1 H1 g1) (fun H2 k2 => (have g2 := g1.trans k2; ev_orV (h2 H2 g2) (fun H3 k3 => (have g3 := g2.trans k3; ev_orV (h3 H3 g3) (fun H4 k4 => (have g4 := g3.trans k4; ev_orV (h4 H4 g4) (fun H5 k5 => (have g5 := g4.trans k5; ev_orV (h5 H5 g5) (fun H6 k6 => (have g6 := g5.trans k6; ev_orV (h6 H6 g6) (fun H7 k7 => (have g7 := g6.trans k7; ev_orV (h7 H7 g7) (fun H8 k8 => (have g8 := g7.trans k8; h8 H8 g8)))))))))))))))
end
end Mir
set_option Elab.async false
set_option linter.all false
set_option maxRecDepth 100000
namespace Mir
open PySem PySem.Spec PyProof.Rows L2
variable [Nm]
/-! ### errors of the program: the classes that a law's text holds -/
structure Xc where
  fault : Option Addr
  zd : Option Addr
  mal : Option Addr
  refu : Option Addr
  nt : Option Addr
def xe0 (c : Option Addr) (A : List Addr) (H : Hp) (E : XK) : Prop := ∃ a, c = some a ∧ ∀ H', Gr A H H' → E (.ref a) none H'
def xe1 (c : Option Addr) (f : Str) (v : V) (A : List Addr) (H : Hp) (E : XK) : Prop := ∃ a, c = some a ∧ ∀ d H', Gr A H H' → H' d = some (.xd [(f, v)]) → E (.ref a) (some d) H'
def XEr (C : Xc) (A : List Addr) (H : Hp) (E : XK) : Er → Prop
  | .zd => xe0 C.zd A H E
  | .mal => xe0 C.mal A H E
  | .refu r => xe1 C.refu "reason" (.str r) A H E
  | .nt i => xe1 C.nt "at" (.int i) A H E
section
variable {C : Xc} {A : List Addr} {H H' : Hp} {E : XK} {e : Er}
theorem xe0_at {c : Option Addr} {a : Addr} (h : xe0 c A H E) (e : c = some a) (g : Gr A H H') : E (.ref a) none H' := by
  obtain ⟨b, e2, h⟩ := h
  rw [e] at e2
  cases e2
  exact h H' g
theorem xe1_at {c : Option Addr} {f : Str} {v : V} {a d : Addr} (h : xe1 c f v A H E) (e : c = some a) (g : Gr A H H') (hd : H' d = some (.xd [(f, v)])) : E (.ref a) (some d) H' := by
  obtain ⟨b, e2, h⟩ := h
  rw [e] at e2
  cases e2
  exact h d H' g hd
theorem XEr.sub (g : Gr A H H') (h : XEr C A H E e) : XEr C [] H' E e := by
  cases e with
  | zd => obtain ⟨a, e, h⟩ := h; exact ⟨a, e, fun H2 g2 => h H2 (g.of0' g2)⟩
  | mal => obtain ⟨a, e, h⟩ := h; exact ⟨a, e, fun H2 g2 => h H2 (g.of0' g2)⟩
  | refu r => obtain ⟨a, e, h⟩ := h; exact ⟨a, e, fun d H2 g2 hd => h d H2 (g.of0' g2) hd⟩
  | nt i => obtain ⟨a, e, h⟩ := h; exact ⟨a, e, fun d H2 g2 hd => h d H2 (g.of0' g2) hd⟩
/-- .. at an error class that the text does not hold, nothing is promised -/
theorem xe0_no {c : Option Addr} (h : xe0 c A H E) (e : c = none) : False := by
  obtain ⟨a, e2, _⟩ := h
  rw [e] at e2
  cases e2
theorem xe1_no {c : Option Addr} {f : Str} {v : V} (h : xe1 c f v A H E) (e : c = none) : False := by
  obtain ⟨a, e2, _⟩ := h
  rw [e] at e2
  cases e2
end
/-- an answer that is no error -/
def noEr {α : Type} (m : R α) : R α := match m with
  | .ok a => .ok a
  | .er _ => .out
  | .out => .out
def tryR {α : Type} (m : R α) (h : Er → R α) : R α := match m with
  | .ok a => .ok a
  | .er e => h e
  | .out => .out
@[reducible] def Er.on {ρ : Type} (e : Er) (z m : ρ) (r : Str → ρ) (n : Int → ρ) : ρ := match e with
  | .zd => z
  | .mal => m
  | .refu x => r x
  | .nt i => n i
theorem wp_noEr {α : Type} {m : R α} {P : α → Prop} {E : Er → Prop} (h : wp (noEr m) P E) : wp m P fun _ => False := by
  cases m with
  | ok a => exact h
  | er x => exact h.elim
  | out => exact h
theorem wp_bindN {α β : Type} {Q : β → Prop} {E : Er → Prop} {m : R α} {f : α → R β} (h : wp ((noEr m).bind f) Q E) : wp m (fun a => wp (f a) Q E) fun _ => False := wp_noEr (wp_bind h)
theorem wp_tryR {α : Type} {m : R α} {k : Er → R α} {P : α → Prop} {E : Er → Prop} (h : wp (tryR m k) P E) : wp m P fun e => wp (k e) P E := by
  cases m <;> exact h
theorem rd_callS {sp : Sp} {E : L2.St → XK} {l : TA} {σ : L2.St} {H : Hp} {Q : VK} (h : l σ H fun vs H1 => sp vs H1 Q (E σ)) : tCallS sp E l σ H Q := h
/-! ### try -/
def tTryAs (K : PySem.W.Frag) (c : Value) (i : Nat) (ts : Addr → Value → Option Addr → TS) (Wout : WX) (tb : WX → TS) : TS := fun D σ H => tb (wAs K c i ts Wout D) D σ H
def tTryOnly (K : PySem.W.Frag) (c : Value) (ts : Addr → Value → Option Addr → TS) (Wout : WX) (tb : WX → TS) : TS := fun D σ H => tb (wOnly K c ts Wout D) D σ H
theorem ps_tryAs {X : Cx} {x n : Str} {c : Value} {i : Nat} {body suite : List Stmt} {b₀ : Stmt} {np pos pos' : Pos} {tb : WX → TS} {ts : Addr → Value → Option Addr → TS} {Wout : WX}
    (hs : X.stack = X.env :: X.outer) (hf : X.env.frame = some X.env.locals) (hN : X.N.Nodup) (hi : X.N[i]? = some n) (hln : X.env.kindOf n = some .local) (hc : Names X x c) (tk : Takes X Wout)
    (hb : ∀ (W : WX) (pn : List (Addr × Obj)) (xe : Value → Shared → Prop), Takes (X.tr pn xe) W → PassesOwn (model X.prog X.w) X.A X.env xe → PSs (X.tr pn xe) body (tb W))
    (hh : ∀ (a : Addr) (oe : Obj) (cls : Value) (d : Option Addr) (pn : List (Addr × Obj)), Zc cls d oe → (∃ vs, oe.data = .fields vs) → PSs (X.suite a ((a, oe) :: pn)) (b₀ :: suite) (ts a cls d)) :
    PS X (.Try body [.ExceptHandler (some (.Name x np)) (some n) (b₀ :: suite) pos'] [] [] pos) (tTryAs X.K c i ts Wout tb) := ps_try_as hs hf hN hi hln hc tk hb hh
theorem ps_tryOnly {X : Cx} {x : Str} {c : Value} {body suite : List Stmt} {b₀ : Stmt} {np pos pos' : Pos} {tb : WX → TS} {ts : Addr → Value → Option Addr → TS} {Wout : WX}
    (hs : X.stack = X.env :: X.outer) (hf : X.env.frame = some X.env.locals) (hc : Names X x c) (tk : Takes X Wout)
    (hb : ∀ (W : WX) (pn : List (Addr × Obj)) (xe : Value → Shared → Prop), Takes (X.tr pn xe) W → PassesOwn (model X.prog X.w) X.A X.env xe → PSs (X.tr pn xe) body (tb W))
    (hh : ∀ (a : Addr) (oe : Obj) (cls : Value) (d : Option Addr) (pn : List (Addr × Obj)), Zc cls d oe → (∃ vs, oe.data = .fields vs) → PSs (X.suite a ((a, oe) :: pn)) (b₀ :: suite) (ts a cls d)) :
    PS X (.Try body [.ExceptHandler (some (.Name x np)) none (b₀ :: suite) pos'] [] [] pos) (tTryOnly X.K c ts Wout tb) := ps_try_only hs hf hc tk hb hh
section
variable {K : PySem.W.Frag} {c : Value} {i : Nat} {ts : Addr → Value → Option Addr → TS} {Wout : WX} {tb : WX → TS} {D : Ends} {σ : L2.St} {H : Hp} {α : Type} {m : R α} {k : Er → R α} {P : α → Prop} {E : Er → Prop}
/-- what the handlers do is shown once, for every state that the body may leave -/
theorem rd_tryAs (C : Xc) (rel : L2.St → Hp → Prop) (hm : wp (tryR m k) P E)
    (hs : ∀ (e : Er) σ H, rel σ H → wp (k e) P E → XEr C [] H (WE (wAs K c i ts Wout D) σ) e)
    (hb : ∀ (W : WX), (∀ (e : Er) σ H, rel σ H → wp (k e) P E → XEr C [] H (WE W σ) e) → wp m P (fun e => wp (k e) P E) → tb W D σ H) : tTryAs K c i ts Wout tb D σ H :=
  hb _ hs (wp_tryR hm)
theorem rd_tryOnly (C : Xc) (rel : L2.St → Hp → Prop) (hm : wp (tryR m k) P E)
    (hs : ∀ (e : Er) σ H, rel σ H → wp (k e) P E → XEr C [] H (WE (wOnly K c ts Wout D) σ) e)
    (hb : ∀ (W : WX), (∀ (e : Er) σ H, rel σ H → wp (k e) P E → XEr C [] H (WE W σ) e) → wp m P (fun e => wp (k e) P E) → tb W D σ H) : tTryOnly K c ts Wout tb D σ H :=
  hb _ hs (wp_tryR hm)
end
/-! ### what is known of an error class without __init__ -/
structure Xk (K : PySem.W.Frag) (mg : Str → Option Value) (x : Str) (c : Addr) : Prop where
  g : mg x = some (.ref c)
  x : PySem.W.excIn K c [.type "ValueError", .type "Exception", .type "BaseException", .type "object"] "ValueError.__new__" = true
  k : PySem.W.keepIn K (.ref c) = true
  b : PySem.W.subIn K (.ref c) (.type "BaseException") = some true
  t : PySem.W.typeIn K (.ref c) = some (.type "type")
/-! ### isinstance of a caught error -/
def rIsX (K : PySem.W.Frag) (a : Addr) (cls : Value) (d : Option Addr) (xs : List V) (H : Hp) (Q : VK) : Prop := ∃ (D : Addr) (c : V) (b : Bool), cls = .ref D ∧ d = none ∧ ExcC K D ∧ xs = [.ref a, c] ∧
  ((∃ cv, (∀ u, RelV c u → u = cv) ∧ PySem.W.kitOne K (.ref D) cv = some b) ∨ (∃ p vs its, c = .ref p ∧ H p = some (.tup vs) ∧ (∀ us, Vals vs us → us = its) ∧ PySem.W.kitAny K (.ref D) its = some b)) ∧ Q (.bl b) H
theorem call_isX {X : Cx} {a : Addr} {cls : Value} {d : Option Addr} {oe : Obj} {pn : List (Addr × Obj)} (hz : Zc cls d oe) (hf : ∃ vs, oe.data = .fields vs) :
    CallR (X.suite a ((a, oe) :: pn)) (.builtin "isinstance") (rIsX X.K a cls d) := by
  intro pins s σ H xs us Q I r h
  obtain ⟨D, c, b, rfl, rfl, C, rfl, h, q⟩ := h
  rcases h with ⟨cv, hcv, e⟩ | ⟨p, vs, its, rfl, hp, hi, e⟩
  · exact call_isE C hz hf pins s σ H _ us Q I r ⟨c, cv, b, rfl, hcv, e, q⟩
  · cases r with
    | cons rx rr =>
      cases rr with
      | cons rt rn =>
        cases rn
        obtain rfl := rx
        obtain rfl := rt
        obtain ⟨hget, _⟩ := I.pin (a, oe) (List.mem_append_left _ List.mem_cons_self)
        obtain ⟨vs', hv⟩ := hf
        have J : PySem.W.InstAt s.heap a oe D none := ⟨hget, hz.1, by unfold PySem.W.notCls; rw [hv] <;> rfl, by rw [hz.2]; trivial⟩
        have ht : ObjOk X.prog X.w H s.heap p (.tup vs) := I.hok p _ hp
        obtain ⟨hl, its', hv', it⟩ := ht
        obtain rfl := hi _ hv'
        obtain ⟨dd, n, sl, hg⟩ : ∃ dd n sl, s.heap.get? p = some ⟨.type "tuple", dd, .seq (List.toArray its') n, sl⟩ := by
          obtain ⟨o, h1, h2, n, h3⟩ := it
          obtain ⟨cl, dc, dt, sl⟩ := o
          cases h2
          cases h3
          exact ⟨_, _, _, h1⟩
        exact PySem.W.kia_tup (PySem.W.handS_kitx_exc C.hg C.hk C.hs C.hd C.ha C.hn C.ht C.hm) I.kIn J hg e (by simp) fun tk => ⟨.bl b, H, I.tok _, rfl, q⟩
theorem isX_one {K : PySem.W.Frag} {D a : Addr} {c : V} {cv : Value} {b : Bool} {H : Hp} {Q : VK} (C : ExcC K D) (e : PySem.W.kitOne K (.ref D) cv = some b) (hc : ∀ u, RelV c u → u = cv) (q : Q (.bl b) H) : ap3 (rIsX K a (.ref D) none) [.ref a, c] H Q :=
  ⟨D, c, b, rfl, rfl, C, rfl, .inl ⟨cv, hc, e⟩, q⟩
theorem isX_tup {K : PySem.W.Frag} {D a p : Addr} {vs : List V} {its : List Value} {b : Bool} {H : Hp} {Q : VK} (C : ExcC K D) (hp : H p = some (.tup vs)) (hi : ∀ us, Vals vs us → us = its) (e : PySem.W.kitAny K (.ref D) its = some b) (q : Q (.bl b) H) : ap3 (rIsX K a (.ref D) none) [.ref a, .ref p] H Q :=
  ⟨D, .ref p, b, rfl, rfl, C, rfl, .inr ⟨p, vs, its, rfl, hp, hi, e⟩, q⟩
theorem vals_refs : ∀ {cs : List Addr} {us : List Value}, Vals (cs.map V.ref) us → us = cs.map Value.ref
  | [], _, h => by cases h; rfl
  | c :: cs, _, h => by
    cases h with
    | cons r t =>
      obtain rfl := r
      rw [vals_refs t]
      rfl
theorem mk_X {vs : List V} {H : Hp} {Q : VK} (l : vs.length ≤ sizeLine) (q : ∀ p H', Gr [] H H' → H' p = some (.tup vs) → Q (.ref p) H') : aTup vs H Q := ⟨l, fun p n => q p _ (Gr.new n) upd_same⟩
theorem kc_of {K : PySem.W.Frag} {C : Addr} {cls : Value} {b : Bool} (h1 : PySem.W.subIn K (.ref C) (.type "BaseException") = some true) (h2 : PySem.W.hasDictIn K C = true) (h3 : PySem.W.typeIn K (.ref C) = some (.type "type")) (h4 : PySem.W.subIn K cls (.ref C) = some b) : PySem.W.kitCls K cls (.ref C) = some b := by
  have := PySem.W.exm_ref h1 h2 h3 h4
  unfold PySem.W.exmOne at this
  rw [h1] at this
  simpa using this
theorem ko_true {K : PySem.W.Frag} {t c : Value} (h : PySem.W.kitCls K t c = some true) : PySem.W.kitOne K t c = some true := by
  unfold PySem.W.kitOne
  split
  · rfl
  · exact h
theorem ko_false {K : PySem.W.Frag} {t C : Addr} (h : PySem.W.kitCls K (.ref t) (.ref C) = some false) (s : PySem.W.subIn K (.ref t) (.ref C) = some false) (s2 : PySem.W.subIn K (.ref t) (.ref t) = some true) : PySem.W.kitOne K (.ref t) (.ref C) = some false := by
  unfold PySem.W.kitOne
  split
  · rename_i e
    have e2 : (Value.ref t) = .ref C := by simpa using e
    rw [← e2, s2] at s
    cases s
  · exact h
theorem ka_nil {K : PySem.W.Frag} {t : Value} : PySem.W.kitAny K t [] = some false := rfl
theorem ka_cons {K : PySem.W.Frag} {t c : Value} {cs : List Value} {b : Bool} (h : PySem.W.kitOne K t c = some false) (h2 : PySem.W.kitAny K t cs = some b) : PySem.W.kitAny K t (c :: cs) = some b := by
  unfold PySem.W.kitAny
  rw [h]
  exact h2
theorem ka_hit {K : PySem.W.Frag} {t c : Value} {cs : List Value} (h : PySem.W.kitOne K t c = some true) : PySem.W.kitAny K t (c :: cs) = some true := by
  unfold PySem.W.kitAny
  rw [h]
theorem kt_of {K : PySem.W.Frag} {T : String} {t : Value} {b : Bool} (m : PySem.W.kitMeta T = true) (h : PySem.W.subIn K t (.type T) = some b) : PySem.W.kitCls K t (.type T) = some b := by
  unfold PySem.W.kitCls
  simp [m, h]
section
variable {ρ : Type} {z m : R ρ} {r : Str → R ρ} {n : Int → R ρ} {P : ρ → Prop} {E : Er → Prop} {x : Str} {i : Int}
theorem wp_on_zd (h : wp (Er.on .zd z m r n) P E) : wp z P E := h
theorem wp_on_mal (h : wp (Er.on .mal z m r n) P E) : wp m P E := h
theorem wp_on_refu (h : wp (Er.on (.refu x) z m r n) P E) : wp (r x) P E := h
theorem wp_on_nt (h : wp (Er.on (.nt i) z m r n) P E) : wp (n i) P E := h
end
end Mir
set_option Elab.async false
set_option linter.all false
set_option maxRecDepth 100000
namespace Mir
open PySem PySem.Spec PyProof.Rows L2
variable [Nm]
/-! ### any, all of a list or tuple of numbers, flags -/
def truF : V → Bool
  | .int i => i != 0
  | .bl b => b
  | _ => false
def isF : V → Bool
  | .int _ => true
  | .bl _ => true
  | .non => true
  | _ => false
def rAnyF (K : PySem.W.Frag) (vs : List V) (H : Hp) (Q : VK) : Prop := ∃ a xs, vs = [.ref a] ∧ (SqL K H a xs ∨ SqT K H a xs) ∧ (∀ x ∈ xs, isF x = true) ∧ Q (.bl (xs.any truF)) H
theorem any_rangeF : ∀ (xs : List V), ((List.range xs.length).any fun i => truF (xs.getD i .non)) = xs.any truF := by
  intro xs
  rw [Bool.eq_iff_iff, List.any_eq_true, List.any_eq_true]
  constructor
  · rintro ⟨i, hi, ht⟩
    have hi := List.mem_range.mp hi
    exact ⟨xs[i], List.getElem_mem hi, by rw [List.getD_eq_getElem?_getD, List.getElem?_eq_getElem hi] at ht; exact ht⟩
  · rintro ⟨x, hx, ht⟩
    obtain ⟨i, hi, e⟩ := List.getElem_of_mem hx
    exact ⟨i, List.mem_range.mpr hi, by rw [List.getD_eq_getElem?_getD, List.getElem?_eq_getElem hi]; exact e ▸ ht⟩
theorem truth_flat {prog : Program} {w : World} {A : Around} {xs : List V} {its : List Value} (r : Vals xs its) (hf : ∀ x ∈ xs, isF x = true) :
    TruthOf prog w A (fun i v => (List.toArray its)[i]? = some v) fun i => truF (xs.getD i .non) := by
  intro i v s Q E hv hq
  have hv' : its[i]? = some v := by simpa using hv
  obtain ⟨x, hx, rx⟩ : ∃ x, xs[i]? = some x ∧ RelV x v := by
    clear hq hf
    induction r generalizing i with
    | nil => simp at hv'
    | cons h t ih =>
      cases i with
      | zero =>
        simp at hv'
        subst hv'
        exact ⟨_, rfl, h⟩
      | succ i => simpa using ih i (by simpa using hv') (by simpa using hv')
  have e : xs.getD i .non = x := by rw [List.getD_eq_getElem?_getD, hx]; rfl
  have hq : Q (truF x) s := by
    have h2 : Q (truF (xs.getD i .non)) s := hq
    rw [e] at h2
    exact h2
  have hm := hf x (List.mem_of_getElem? hx)
  cases x with
  | int n => obtain ⟨t, rfl⟩ := rx; exact P.truthy_int hq
  | bl b => obtain rfl := rx; exact wpAny_truthy_bool hq
  | non => obtain rfl := rx; exact PyProof.Rows.truthy_none hq
  | _ => cases hm
theorem cr_anyF {X : Cx} (hc : X.calm = true) : CallR X (.builtin "any") (rAnyF X.K) := by
  intro pins s σ H vs us Q I r h
  obtain ⟨a, xs, rfl, hs, hf, q⟩ := h
  rw [Vals.ref1 r]
  rcases hs with hs | hs
  · obtain ⟨its, rv, hl, _⟩ := I.list hs
    refine call_any_walk (iter_any hl.isList fun s₂ e2 st hne => ?_)
    subst e2
    refine ⟨s.heap.objs.size, [s.heap.objs.size, a], [s.heap.objs.size], its.toArray.size, (fun i v => its.toArray[i]? = some v), (fun i h => Heap.IsListIter h s.heap.objs.size a i ∧ Heap.IsList h a its.toArray), _, rfl, Walks.list (A := X.A.in1) (I.ok.hd hc) _ a hne its.toArray, st, truth_flat rv hf, fun h' tk hk => ?_⟩
    refine ⟨.bl (xs.any truF), H, I.kept fun b o eo => hk b o (fun hmem => ?_) (Heap.get?_push_of_some _ eo), ?_, q⟩
    · rcases List.mem_cons.mp hmem with e1 | hmem
      · exact absurd (e1 ▸ Heap.lt_size eo) (Nat.lt_irrefl _)
      · cases hmem
    · show Value.bool _ = Value.bool _
      rw [← any_rangeF xs, List.size_toArray, ← Paired.length rv]
  · obtain ⟨its, rv, hl, _⟩ := I.tuple hs
    have hne : a ≠ s.heap.objs.size := by
      obtain ⟨o, h1, _⟩ := hl
      exact Nat.ne_of_lt (Heap.lt_size h1)
    refine call_any_walk (iter_tuple hl ?_)
    refine ⟨s.heap.objs.size, [s.heap.objs.size, a], [s.heap.objs.size], its.toArray.size, (fun i v => its.toArray[i]? = some v), (fun i h => Heap.IsTupleIter h s.heap.objs.size a i ∧ Heap.IsTuple h a its.toArray), _, rfl, Walks.tuple (A := X.A.in1) (I.ok.hd hc) _ a hne its.toArray, ⟨⟨_, Heap.get?_push_size _ rfl, rfl, rfl⟩, ?_⟩, truth_flat rv hf, fun h' tk hk => ?_⟩
    · obtain ⟨o, h1, h2⟩ := hl
      exact ⟨o, Heap.get?_push_of_some _ h1, h2⟩
    refine ⟨.bl (xs.any truF), H, I.kept fun b o eo => hk b o (fun hmem => ?_) (Heap.get?_push_of_some _ eo), ?_, q⟩
    · rcases List.mem_cons.mp hmem with e1 | hmem
      · exact absurd (e1 ▸ Heap.lt_size eo) (Nat.lt_irrefl _)
      · cases hmem
    · show Value.bool _ = Value.bool _
      rw [← any_rangeF xs, List.size_toArray, ← Paired.length rv]
end Mir
set_option Elab.async false
set_option linter.all false
set_option maxRecDepth 100000
namespace Mir
open PySem PySem.Spec PyProof.Rows L2
variable [Nm]
/-! ### what is walked, with its data -/
structure Wk {α : Type} (J : It) (xs : List α) (G : Hp → Prop) (r : Rp α) (H0 : Hp) : Prop where
  w : ∃ Y, Walk J xs.length G Y ∧ ∀ (A : List Addr) i H v H', Gr A H0 H → i < xs.length → Y i H v H' → ∃ x, xs[i]? = some x ∧ Gr [] H H' ∧ r H' x v
section
variable {α β : Type} {K : PySem.W.Frag} {r : Rp α} {s : Rp β} {H0 : Hp} {a b : Addr} {xs : List α} {ys : List β} {vs ws : List V}
theorem Paired.get1 {q : α → V → Prop} (hp : Paired q xs vs) {i : Nat} {v : V} (e : vs[i]? = some v) : ∃ x, xs[i]? = some x ∧ q x v := by
  have hi := (List.getElem?_eq_some_iff.mp e).1
  have hi' : i < xs.length := by rw [Paired.length hp]; exact hi
  exact ⟨xs[i], List.getElem?_eq_getElem hi', Paired.get2 hp e hi'⟩
theorem wk_lst [Imm r] (hp : Paired (r H0) xs vs) : Wk (Itl K a) xs (fun H => SqL K H a vs) r H0 := ⟨YAt vs, by rw [Paired.length hp]; exact walk_list, fun A i H v H' g hi ⟨e, ev⟩ => by
  obtain ⟨x, hx, hr⟩ := Paired.get1 hp ev
  exact ⟨x, hx, by rw [e]; exact Gr.refl _, by rw [e]; exact Imm.mono g hr⟩⟩
theorem wk_tup [Imm r] (hp : Paired (r H0) xs vs) : Wk (Itt K a) xs (fun H => SqT K H a vs) r H0 := ⟨YAt vs, by rw [Paired.length hp]; exact walk_tup, fun A i H v H' g hi ⟨e, ev⟩ => by
  obtain ⟨x, hx, hr⟩ := Paired.get1 hp ev
  exact ⟨x, hx, by rw [e]; exact Gr.refl _, by rw [e]; exact Imm.mono g hr⟩⟩
theorem wk_rng {lo : Int} {n : Nat} : Wk (Itr lo n) (rng lo n) (fun _ => True) rI H0 := ⟨YFn fun i => V.int (lo + (i : Nat)), by rw [rng_length]; exact walk_range, fun A i H v H' g hi ⟨e, ev⟩ =>
  ⟨lo + i, by rw [List.getElem?_eq_getElem hi, rng_get], by rw [e]; exact Gr.refl _, ev⟩⟩
def rngC (lo c : Int) : Nat → List Int
  | 0 => []
  | n + 1 => lo :: rngC (lo + c) c n
theorem rngC_length (lo c : Int) (n : Nat) : (rngC lo c n).length = n := by
  induction n generalizing lo with
  | zero => rfl
  | succ n ih => exact congrArg Nat.succ (ih (lo + c))
theorem rngC_get (lo c : Int) (n i : Nat) (h : i < n) : (rngC lo c n)[i]? = some (lo + (i : Nat) * c) := by
  induction n generalizing lo i with
  | zero => omega
  | succ n ih =>
    cases i with
    | zero => show some lo = _; simp
    | succ i =>
      show (rngC (lo + c) c n)[i]? = _
      rw [ih (lo + c) i (by omega)]
      congr 1
      have : ((i + 1 : Nat) : Int) * c = (i : Int) * c + c := by rw [Int.natCast_add, Int.add_mul]; simp
      omega
theorem wk_rngC {lo c : Int} {n : Nat} : Wk (Itc lo c n) (rngC lo c n) (fun _ => True) rI H0 := ⟨YFn fun i => V.int (lo + (i : Nat) * c), by rw [rngC_length]; exact walk_rangeC, fun A i H v H' g hi ⟨e, ev⟩ =>
  ⟨lo + (i : Nat) * c, rngC_get lo c n i (by rwa [rngC_length] at hi), by rw [e]; exact Gr.refl _, ev⟩⟩
def enumF (xs : List α) : List (Int × α) := (rng 0 xs.length).zip xs
theorem zip_get {i : Nat} {x : α} {y : β} (h1 : xs[i]? = some x) (h2 : ys[i]? = some y) : (xs.zip ys)[i]? = some (x, y) := by
  rw [List.getElem?_zip_eq_some]
  exact ⟨h1, h2⟩
theorem wk_enum [Imm r] (hp : Paired (r H0) xs vs) : Wk (Ite K a) (enumF xs) (fun H => SqL K H a vs) (rP K rI r) H0 := ⟨_, by rw [enumF, List.length_zip, rng_length, Nat.min_self, Paired.length hp]; exact walk_enum, fun A i H v H' g hi h => by
  obtain ⟨T, x, y, rfl, hn, rfl, ex, ey⟩ := h
  cases ex
  obtain ⟨z, hz, hr⟩ := Paired.get1 hp ey
  have hi' : i < (rng 0 xs.length).length := by
    rw [enumF, List.length_zip] at hi
    exact Nat.lt_of_lt_of_le hi (Nat.min_le_left _ _)
  refine ⟨((i : Nat), z), zip_get (by rw [List.getElem?_eq_getElem hi', rng_get]; congr 1; omega) hz, Gr.new hn, T, .int (i : Nat), y, rfl, SqT.of upd_same, rfl, Imm.mono (g.of0' (Gr.new hn)) hr⟩⟩
theorem wk_zip [Imm r] [Imm s] (hp : Paired (r H0) xs vs) (hq : Paired (s H0) ys ws) : Wk (Itz K a b) (xs.zip ys) (fun H => SqL K H a vs ∧ SqL K H b ws) (rP K r s) H0 := ⟨_, by rw [List.length_zip]; exact walk_zip (by rw [Paired.length hp, Paired.length hq]), fun A i H v H' g hi h => by
  obtain ⟨T, x, y, rfl, hn, rfl, ex, ey⟩ := h
  obtain ⟨z, hz, hr⟩ := Paired.get1 hp ex
  obtain ⟨u, hu, hs⟩ := Paired.get1 hq ey
  exact ⟨(z, u), zip_get hz hu, Gr.new hn, T, x, y, rfl, SqT.of upd_same, Imm.mono (g.of0' (Gr.new hn)) hr, Imm.mono (g.of0' (Gr.new hn)) hs⟩⟩
theorem walk_zipT : Walk (RZ.ItzT K a b) (min vs.length ws.length) (fun H => SqT K H a vs ∧ SqT K H b ws) (YPair (fun i => vs[i]?) fun i => ws[i]?) := by
  refine ⟨fun i H hi ⟨h1, h2⟩ => ?_, fun H ⟨h1, h2⟩ => ?_, fun i H x H' hi ⟨h1, h2⟩ h => ?_⟩
  · exact ⟨vs, ws, vs[i]'(by omega), ws[i]'(by omega), h1, h2, by simp [List.getElem?_eq_getElem (show i < vs.length by omega)], by simp [List.getElem?_eq_getElem (show i < ws.length by omega)]⟩
  · exact ⟨vs, ws, h1, h2, by omega⟩
  · obtain ⟨T, x, y, rfl, hn, rfl, ex, ey⟩ := h
    exact ⟨T, x, y, rfl, hn, rfl, ex vs h1, ey ws h2⟩
theorem wk_zipT [Imm r] [Imm s] (hp : Paired (r H0) xs vs) (hq : Paired (s H0) ys ws) : Wk (RZ.ItzT K a b) (xs.zip ys) (fun H => SqT K H a vs ∧ SqT K H b ws) (rP K r s) H0 := ⟨_, by rw [List.length_zip, Paired.length hp, Paired.length hq]; exact walk_zipT, fun A i H v H' g hi h => by
  obtain ⟨T, x, y, rfl, hn, rfl, ex, ey⟩ := h
  obtain ⟨z, hz, hr⟩ := Paired.get1 hp ex
  obtain ⟨u, hu, hs⟩ := Paired.get1 hq ey
  exact ⟨(z, u), zip_get hz hu, Gr.new hn, T, x, y, rfl, SqT.of upd_same, Imm.mono (g.of0' (Gr.new hn)) hr, Imm.mono (g.of0' (Gr.new hn)) hs⟩⟩
end
section
variable {α σt ρ : Type} {r : Rp α} {J : It} {G : Hp → Prop} {xs : List α} {H0 H : Hp} {g : TG} {tb : TS} {D : Ends} {σ : L2.St} {s0 : σt} {E : Er → Prop}
theorem for_R (w : Wk J xs G r H0) {f : σt → α → R σt} (rel : σt → L2.St → Hp → Prop)
    (hm : wp (foldR f s0 xs) (fun s => ∀ σ H, rel s σ H → D.nx σ H) E) (h0 : rel s0 σ H) (hG : ∀ s σ H, rel s σ H → G H ∧ ∃ A, Gr A H0 H)
    (hs : ∀ (x : α) (v : V) (s : σt) (σ : L2.St) (H H' : Hp) (N : L2.St → Hp → Prop), rel s σ H → Gr [] H H' → r H' x v → wp (f s x) (fun s' => ∀ σ' H', rel s' σ' H' → N σ' H') E →
      g v σ H' fun σ2 H2 => tb { D with nx := N, ct := N, bk := D.nx } σ2 H2) :
    ∃ W : Nat → Nat → L2.St → Hp → Prop, (∃ m, W 0 m σ H) ∧ ∀ i m σ H, W i m σ H →
      (J.stop i H ∧ D.nx σ H) ∨ (J.go i H ∧ ∃ N : L2.St → Hp → Prop, (∀ σ' H', N σ' H' → ∃ m', m' < m ∧ W (i + 1) m' σ' H') ∧ ∀ x H', J.yld i H x H' → g x σ H' fun σ2 H2 => tb { D with nx := N, ct := N, bk := D.nx } σ2 H2) := by
  obtain ⟨Y, wa, hy⟩ := w
  refine for_it wa (fun i σ H => ∃ s, rel s σ H ∧ wp (foldR f s (xs.drop i)) (fun s => ∀ σ H, rel s σ H → D.nx σ H) E) ⟨s0, h0, hm⟩ (fun i σ H _ ⟨s, hr, _⟩ => (hG s σ H hr).1) ?_ ?_
  · rintro i v σ H H' hi ⟨s, hr, hw⟩ y
    obtain ⟨A, ga⟩ := (hG s σ H hr).2
    obtain ⟨x, hx, g', hv⟩ := hy A i H v H' ga hi y
    have hw := foldR_step hi hw
    have e : xs[i] = x := by rw [List.getElem?_eq_getElem hi] at hx; exact Option.some.inj hx
    rw [e] at hw
    exact hs x v s σ H H' _ hr g' hv (wp_imp hw (fun s' hs' => fun σ' H' r' => ⟨s', r', hs'⟩) fun _ e => e)
  · rintro σ H ⟨s, hr, hw⟩
    exact foldR_end (Nat.le_refl _) hw σ H hr
theorem for_L (w : Wk J xs G r H0) {f : σt → α → R (Lp σt ρ)} {RT : ρ → Prop} (rel : σt → L2.St → Hp → Prop)
    (hm : wp (loopR f s0 xs) (leP (fun s => ∀ σ H, rel s σ H → D.nx σ H) RT) E) (h0 : rel s0 σ H) (hG : ∀ s σ H, rel s σ H → G H ∧ ∃ A, Gr A H0 H)
    (hs : ∀ (x : α) (v : V) (s : σt) (σ : L2.St) (H H' : Hp) (N : L2.St → Hp → Prop), rel s σ H → Gr [] H H' → r H' x v → wp (f s x) (lpP (fun s' => ∀ σ' H', rel s' σ' H' → N σ' H') (fun s' => ∀ σ' H', rel s' σ' H' → D.nx σ' H') RT) E →
      g v σ H' fun σ2 H2 => tb { D with nx := N, ct := N, bk := D.nx } σ2 H2) :
    ∃ W : Nat → Nat → L2.St → Hp → Prop, (∃ m, W 0 m σ H) ∧ ∀ i m σ H, W i m σ H →
      (J.stop i H ∧ D.nx σ H) ∨ (J.go i H ∧ ∃ N : L2.St → Hp → Prop, (∀ σ' H', N σ' H' → ∃ m', m' < m ∧ W (i + 1) m' σ' H') ∧ ∀ x H', J.yld i H x H' → g x σ H' fun σ2 H2 => tb { D with nx := N, ct := N, bk := D.nx } σ2 H2) := by
  obtain ⟨Y, wa, hy⟩ := w
  refine for_it wa (fun i σ H => ∃ s, rel s σ H ∧ wp (loopR f s (xs.drop i)) (leP (fun s => ∀ σ H, rel s σ H → D.nx σ H) RT) E) ⟨s0, h0, hm⟩ (fun i σ H _ ⟨s, hr, _⟩ => (hG s σ H hr).1) ?_ ?_
  · rintro i v σ H H' hi ⟨s, hr, hw⟩ y
    obtain ⟨A, ga⟩ := (hG s σ H hr).2
    obtain ⟨x, hx, g', hv⟩ := hy A i H v H' ga hi y
    have hw := loopR_step hi hw
    have e : xs[i] = x := by rw [List.getElem?_eq_getElem hi] at hx; exact Option.some.inj hx
    rw [e] at hw
    exact hs x v s σ H H' _ hr g' hv (wp_imp hw (fun s' hs' => (by
      cases s' with
      | nx s' => exact fun σ' H' r' => ⟨s', r', hs'⟩
      | bk s' => exact hs'
      | rt r => exact hs')) fun _ e => e)
  · rintro σ H ⟨s, hr, hw⟩
    exact loopR_end (Nat.le_refl _) hw σ H hr
theorem lc_R (w : Wk J xs G r H0) {f : σt → α → R σt} {Z : σt → Prop} {tt : TT} {te : TE} {own : List Nat} {H1 : Hp} {D : Addr} {Qd : Hp → Prop} (rel : σt → Hp → Prop)
    (hm : wp (foldR f s0 xs) Z E) (h0 : rel s0 (upd H1 D (.lst []))) (hG : ∀ s H, rel s H → G H ∧ ∃ A, Gr A H0 H)
    (hs : ∀ (x : α) (v : V) (s : σt) (H H' : Hp) (Nx : Hp → Prop), rel s H → Gr [] H H' → r H' x v → wp (f s x) (fun s' => ∀ H', rel s' H' → Nx H') E →
      g v (wipe σ own) H' fun σ2 H2 => wipe σ2 own = wipe σ own ∧ tt σ2 H2 fun b H3 => if b = true then te σ2 H3 fun y H4 => ∃ acc, H4 D = some (.lst acc) ∧ acc.length < sizeLine ∧ Nx (upd H4 D (.lst (acc ++ [y]))) else Nx H3)
    (hd : ∀ s H, rel s H → Z s → Qd H) :
    ∃ W : Nat → Nat → Hp → Prop, (∃ m, W 0 m (upd H1 D (.lst []))) ∧ ∀ i m H, W i m H →
      (J.stop i H ∧ Qd H) ∨ (J.go i H ∧ ∃ Nx : Hp → Prop, (∀ H', Nx H' → ∃ m', m' < m ∧ W (i + 1) m' H') ∧ ∀ x H', J.yld i H x H' → g x (wipe σ own) H' fun σ2 H2 => wipe σ2 own = wipe σ own ∧ tt σ2 H2 fun b H3 =>
        if b = true then te σ2 H3 fun y H4 => ∃ acc, H4 D = some (.lst acc) ∧ acc.length < sizeLine ∧ Nx (upd H4 D (.lst (acc ++ [y]))) else Nx H3) := by
  obtain ⟨Y, wa, hy⟩ := w
  refine lc_it wa (fun i H => ∃ s, rel s H ∧ wp (foldR f s (xs.drop i)) Z E) ⟨s0, h0, hm⟩ (fun i H _ ⟨s, hr, _⟩ => (hG s H hr).1) ?_ ?_
  · rintro i v H H' hi ⟨s, hr, hw⟩ y
    obtain ⟨A, ga⟩ := (hG s H hr).2
    obtain ⟨x, hx, g', hv⟩ := hy A i H v H' ga hi y
    have hw := foldR_step hi hw
    have e : xs[i] = x := by rw [List.getElem?_eq_getElem hi] at hx; exact Option.some.inj hx
    rw [e] at hw
    exact hs x v s H H' _ hr g' hv (wp_imp hw (fun s' hs' => fun H' r' => ⟨s', r', hs'⟩) fun _ e => e)
  · rintro H ⟨s, hr, hw⟩
    exact hd s H hr (foldR_end (Nat.le_refl _) hw)
end
end Mir
namespace Mir
open PySem PySem.Spec PyProof.Rows L2
variable [Nm]
section
variable {K : PySem.W.Frag} {σ : L2.St} {H : Hp} {l : TA} {R : It → Hp → Prop}
theorem rd_gtE {n : Nat} {g : TGs} {a : Addr} {u : V} {xs : List V} {Q : L2.St → Hp → Prop} (eu : u = .ref a) (h : SqT K H a xs) (e : xs.length = n) (q : g xs σ H Q) : gTup K n g u σ H Q := ⟨a, xs, eu, h, e, q⟩
theorem rd_r3 (h : l σ H fun vs H1 => ∃ i j c n, vs = [.int i, .int j, .int c] ∧ RgC i j c n ∧ R (Itc i c n) H1) : iRng3 l σ H R := h
def zipA (K : PySem.W.Frag) (R : It → Hp → Prop) (vs : List V) (H1 : Hp) : Prop := ∃ a b xs ys, vs = [.ref a, .ref b] ∧ ((SqL K H1 a xs ∧ SqL K H1 b ys ∧ R (Itz K a b) H1) ∨ (SqT K H1 a xs ∧ SqT K H1 b ys ∧ R (RZ.ItzT K a b) H1))
theorem rd_izip (h : l σ H (zipA K R)) : RZ.iZipA K l σ H R := h
def enumA (K : PySem.W.Frag) (R : It → Hp → Prop) (vs : List V) (H1 : Hp) : Prop := ∃ a xs, vs = [.ref a] ∧ SqL K H1 a xs ∧ R (Ite K a) H1
theorem rd_ienumerate (h : l σ H (enumA K R)) : iEnum K l σ H R := h
theorem zip_l {u v : V} {a b : Addr} {xs ys : List V} (e1 : u = .ref a) (e2 : v = .ref b) (h1 : SqL K H a xs) (h2 : SqL K H b ys) (h : R (Itz K a b) H) : zipA K R [u, v] H := ⟨a, b, xs, ys, by rw [e1, e2], .inl ⟨h1, h2, h⟩⟩
theorem zip_t {u v : V} {a b : Addr} {xs ys : List V} (e1 : u = .ref a) (e2 : v = .ref b) (h1 : SqT K H a xs) (h2 : SqT K H b ys) (h : R (RZ.ItzT K a b) H) : zipA K R [u, v] H := ⟨a, b, xs, ys, by rw [e1, e2], .inr ⟨h1, h2, h⟩⟩
theorem enum_l {a : Addr} {xs : List V} (h1 : SqL K H a xs) (h : R (Ite K a) H) : enumA K R [.ref a] H := ⟨a, xs, rfl, h1, h⟩
end
/-- the turns of a range with a step -/
def rg3n (i j c : Int) : Nat := (Builtin.Range.rangeSize i j c).toNat
def rg3Ok (i j c : Int) : Prop := c ≠ 0 ∧ c.natAbs < 1073741824 ∧ Builtin.Range.small i j c = true ∧ 0 ≤ Builtin.Range.rangeSize i j c
instance (i j c : Int) : Decidable (rg3Ok i j c) := inferInstanceAs (Decidable (_ ∧ _))
theorem rg3_of {i j c : Int} (h : rg3Ok i j c) : RgC i j c (rg3n i j c) := ⟨h.1, h.2.1, h.2.2.1, by unfold rg3n; have := h.2.2.2; omega⟩
section
variable {α β γ : Type} {K : PySem.W.Frag} {r : Rp α} {s : Rp β} {t : Rp γ} {H : Hp} {a : Addr} {v : V} {i : Int} {Q : VK} {E : Er → Prop} {xs : List α}
theorem ix_P20 {x : α × β} (h : rP K r s H x v) (e : ixN 2 i = some 0) (q : ∀ w, r H x.1 w → Q w H) : rIxT K v (.int i) H Q := by
  obtain ⟨a, y, z, rfl, h1, h2, h3⟩ := h

  exact ⟨a, [y, z], i, y, rfl, rfl, h1, by show (ixN 2 i).bind _ = _; rw [e]; rfl, q y h2⟩
theorem rP2_T {r : Rp α} {x : α × α} (h : rP K r r H x v) : rT K r H [x.1, x.2] v := by
  obtain ⟨a, y, z, rfl, h1, h2, h3⟩ := h
  exact ⟨a, rfl, [y, z], h1, .cons h2 (.cons h3 .nil)⟩
theorem rP3_T {r : Rp α} {x : α × α × α} (h : rP3 K r r r H x v) : rT K r H [x.1, x.2.1, x.2.2] v := by
  obtain ⟨a, y, z, u, rfl, h1, h2, h3, h4⟩ := h
  exact ⟨a, rfl, [y, z, u], h1, .cons h2 (.cons h3 (.cons h4 .nil))⟩
/-- an item of a pair, of three, by a written place -/
theorem ix_P2 {x : α × β} {P : V → Prop} (j : Nat) (h : rP K r s H x v) (e : ixN 2 i = some j) (hp : ∀ (a : Addr) (y z : V), r H x.1 y → s H x.2 z → ∃ w, [y, z][j]? = some w ∧ P w) (q : ∀ w, P w → Q w H) : rIxT K v (.int i) H Q := by
  obtain ⟨a, y, z, rfl, h1, h2, h3⟩ := h
  obtain ⟨w, hw, pw⟩ := hp a y z h2 h3
  exact ⟨a, [y, z], i, w, rfl, rfl, h1, by show (ixN 2 i).bind _ = _; rw [e]; exact hw, q w pw⟩
theorem ix_P3 {x : α × β × γ} {P : V → Prop} (j : Nat) (h : rP3 K r s t H x v) (e : ixN 3 i = some j) (hp : ∀ (a : Addr) (y z u : V), r H x.1 y → s H x.2.1 z → t H x.2.2 u → ∃ w, [y, z, u][j]? = some w ∧ P w) (q : ∀ w, P w → Q w H) : rIxT K v (.int i) H Q := by
  obtain ⟨a, y, z, u, rfl, h1, h2, h3, h4⟩ := h
  obtain ⟨w, hw, pw⟩ := hp a y z u h2 h3 h4
  exact ⟨a, [y, z, u], i, w, rfl, rfl, h1, by show (ixN 3 i).bind _ = _; rw [e]; exact hw, q w pw⟩
theorem ix_P21 {x : α × β} (h : rP K r s H x v) (e : ixN 2 i = some 1) (q : ∀ w, s H x.2 w → Q w H) : rIxT K v (.int i) H Q := ix_P2 1 h e (fun _ y z _ h => ⟨z, rfl, h⟩) q
theorem ix_P30 {x : α × β × γ} (h : rP3 K r s t H x v) (e : ixN 3 i = some 0) (q : ∀ w, r H x.1 w → Q w H) : rIxT K v (.int i) H Q := ix_P3 0 h e (fun _ y z u h _ _ => ⟨y, rfl, h⟩) q
theorem ix_P31 {x : α × β × γ} (h : rP3 K r s t H x v) (e : ixN 3 i = some 1) (q : ∀ w, s H x.2.1 w → Q w H) : rIxT K v (.int i) H Q := ix_P3 1 h e (fun _ y z u _ h _ => ⟨z, rfl, h⟩) q
theorem ix_P32 {x : α × β × γ} (h : rP3 K r s t H x v) (e : ixN 3 i = some 2) (q : ∀ w, t H x.2.2 w → Q w H) : rIxT K v (.int i) H Q := ix_P3 2 h e (fun _ y z u _ _ h => ⟨u, rfl, h⟩) q
/-- the last item taken away -/
def popL (xs : List α) : R (α × List α) := match xs[xs.length - 1]? with
  | some x => .ok (x, xs.dropLast)
  | none => .out
def popAtL (xs : List α) (i : Int) : R (α × List α) := if -(2 ^ 63) ≤ i ∧ i < 2 ^ 63 then match seqIndex? i xs.length with
  | some k => match xs[k]? with
    | some x => .ok (x, xs.eraseIdx k)
    | none => .out
  | none => .out else .out
theorem Paired.dropLast {q : α → V → Prop} : ∀ {xs : List α} {vs : List V}, Paired q xs vs → Paired q xs.dropLast vs.dropLast
  | _, _, .nil => .nil
  | _, _, .cons _ .nil => .nil
  | _, _, .cons h (.cons h2 t) => .cons h (Paired.dropLast (.cons h2 t))
theorem Paired.erase {q : α → V → Prop} : ∀ {xs : List α} {vs : List V} (k : Nat), Paired q xs vs → Paired q (xs.eraseIdx k) (vs.eraseIdx k)
  | _, _, _, .nil => .nil
  | _, _, 0, .cons _ t => t
  | _, _, k + 1, .cons h t => .cons h (Paired.erase k t)
theorem rd_pop [Imm r] {Z : α × List α → Prop} (h : Ls r H a xs) (hm : wp (popL xs) Z E) (q : ∀ (t : α × List α) w H', Gr [a] H H' → Ls r H' a t.2 → r H' t.1 w → Z t → Q w H') : rPop (.ref a) [] H Q := by
  obtain ⟨vs, h1, h2⟩ := h
  unfold popL at hm
  cases e : xs[xs.length - 1]? with
  | none =>
    rw [e] at hm
    exact hm.elim
  | some x =>
    rw [e] at hm
    obtain ⟨w, hw, hr⟩ := Paired.at h2 e
    rw [Paired.length h2] at hw
    exact ⟨a, vs, w, rfl, rfl, h1, hw, q (x, xs.dropLast) w _ (Gr.set h1) ⟨_, upd_same, Paired.imm (Gr.set h1) (Paired.dropLast h2)⟩ (Imm.mono (Gr.set h1) hr) hm⟩
theorem rd_popAt [Imm r] {Z : α × List α → Prop} (h : Ls r H a xs) (hm : wp (popAtL xs i) Z E) (q : ∀ (t : α × List α) w H', Gr [a] H H' → Ls r H' a t.2 → r H' t.1 w → Z t → Q w H') : rPopAt (.ref a) [.int i] H Q := by
  obtain ⟨vs, h1, h2⟩ := h
  unfold popAtL at hm
  by_cases b : -(2 ^ 63) ≤ i ∧ i < 2 ^ 63
  · rw [if_pos b] at hm
    cases e : seqIndex? i xs.length with
    | none =>
      rw [e] at hm
      exact hm.elim
    | some k =>
      rw [e] at hm
      cases e2 : xs[k]? with
      | none =>
        simp only [e2] at hm
        exact hm.elim
      | some x =>
        simp only [e2] at hm
        obtain ⟨w, hw, hr⟩ := Paired.at h2 e2
        exact ⟨a, vs, i, k, w, rfl, rfl, h1, b.1, b.2, by rw [← Paired.length h2]; exact e, hw, q (x, xs.eraseIdx k) w _ (Gr.set h1) ⟨_, upd_same, Paired.imm (Gr.set h1) (Paired.erase k h2)⟩ (Imm.mono (Gr.set h1) hr) hm⟩
  · rw [if_neg b] at hm
    exact hm.elim
theorem any_ints {ns : List Int} : (ns.map V.int).any truF = ns.any fun n => n != 0 := by
  induction ns with
  | nil => rfl
  | cons n ns ih => show (truF (V.int n) || _) = _; rw [ih]; rfl
theorem any_bls {bs : List Bool} : (bs.map V.bl).any truF = bs.any id := by
  induction bs with
  | nil => rfl
  | cons n ns ih => show (truF (V.bl n) || _) = _; rw [ih]; rfl
theorem bls_of {ns : List Bool} {vs : List V} (h : Paired (rB H) ns vs) : vs = ns.map V.bl := by
  induction h with
  | nil => rfl
  | cons h _ ih => rw [ih, show _ = V.bl _ from h] <;> rfl
theorem flat_ints {ns : List Int} : ∀ x ∈ ns.map V.int, isF x = true := fun x h => by
  obtain ⟨n, _, rfl⟩ := List.mem_map.mp h
  rfl
theorem flat_bls {ns : List Bool} : ∀ x ∈ ns.map V.bl, isF x = true := fun x h => by
  obtain ⟨n, _, rfl⟩ := List.mem_map.mp h
  rfl
theorem any_LI {ns : List Int} (h : Lq K rI H a ns) (q : Q (.bl (ns.any fun n => n != 0)) H) : ap3 (rAnyF K) [.ref a] H Q := by
  obtain ⟨vs, h1, h2⟩ := h
  obtain rfl := ints_of h2
  exact ⟨a, _, rfl, .inl h1, flat_ints, any_ints ▸ q⟩
theorem any_LB {ns : List Bool} (h : Lq K rB H a ns) (q : Q (.bl (ns.any id)) H) : ap3 (rAnyF K) [.ref a] H Q := by
  obtain ⟨vs, h1, h2⟩ := h
  obtain rfl := bls_of h2
  exact ⟨a, _, rfl, .inl h1, flat_bls, any_bls ▸ q⟩
theorem any_TI {ns : List Int} (h : rT K rI H ns v) (q : Q (.bl (ns.any fun n => n != 0)) H) : ap3 (rAnyF K) [v] H Q := by
  obtain ⟨a, rfl, vs, h1, h2⟩ := h
  obtain rfl := ints_of h2
  exact ⟨a, _, rfl, .inr h1, flat_ints, any_ints ▸ q⟩
theorem any_TB {ns : List Bool} (h : rT K rB H ns v) (q : Q (.bl (ns.any id)) H) : ap3 (rAnyF K) [v] H Q := by
  obtain ⟨a, rfl, vs, h1, h2⟩ := h
  obtain rfl := bls_of h2
  exact ⟨a, _, rfl, .inr h1, flat_bls, any_bls ▸ q⟩
end
end Mir
namespace Mir
open PySem PySem.Spec PyProof.Rows L2
variable [Nm]
/-! ### rules whose reading names the frozen part: it is told -/
section
variable {X : Cx} {K : PySem.W.Frag}
theorem ix_listK (e : X.K = K) : IxR X (rIxL K) := e ▸ ix_list
theorem ix_tupK (e : X.K = K) : IxR X (rIxT K) := e ▸ ix_tup
theorem sl_listK (e : X.K = K) : SlR X (rSlL K) := e ▸ sl_list
theorem sl_tupK (e : X.K = K) : SlR X (rSlT K) := e ▸ sl_tup
theorem sortedIK (e : X.K = K) : CallR X (.builtin "sorted") (rSortedI K) := e ▸ cr_sortedI
theorem anyFK (hc : X.calm = true) (e : X.K = K) : CallR X (.builtin "any") (rAnyF K) := e ▸ cr_anyF hc
theorem isiK (e : X.K = K) : CallR X (.builtin "isinstance") (rIsi K) := e ▸ call_isi
theorem catTK (e : X.K = K) : OpR X (binaryOp .Add) (rCatT K) := e ▸ op_catT
theorem inK (e : X.K = K) : OpR X (compareOp .In) (rIn K false) := e ▸ op_in_seq
theorem notInK (e : X.K = K) : OpR X (compareOp .NotIn) (rIn K true) := e ▸ op_notIn_seq
theorem eqDK (h : X.A.units + 64 < cLine) (e : X.K = K) : OpR X (compareOp .Eq) (rEqD K) := e ▸ op_eqD h
theorem neDK (h : X.A.units + 64 < cLine) (e : X.K = K) : OpR X (compareOp .NotEq) (rNeD K) := e ▸ op_neD h
theorem lenK (e : X.K = K) : CallR X (.builtin "len") (fun xs H Q => ∃ p ys, xs = [.ref p] ∧ (SqL K H p ys ∨ SqT K H p ys) ∧ Q (.int ys.length) H) := e ▸ call_len_seq
theorem tupleK (e : X.K = K) : CallR X (.type "tuple") (fun xs H Q => ∃ p ys, xs = [.ref p] ∧ ((SqL K H p ys ∧ ∀ l : Addr, H l = none → Q (.ref l) (upd H l (.tup ys))) ∨ SqT K H p ys ∧ Q (.ref p) H)) := e ▸ call_tuple_of
theorem listK (e : X.K = K) : CallR X (.type "list") (fun xs H Q => ∃ p ys, xs = [.ref p] ∧ (SqL K H p ys ∨ SqT K H p ys) ∧ ∀ l : Addr, H l = none → Q (.ref l) (upd H l (.lst ys))) := e ▸ call_list_of
end
end Mir
namespace Mir
open PySem PySem.Spec PyProof.Rows L2
variable [Nm]
section
variable {X : Cx} {K : PySem.W.Frag}
theorem pi_listK {tg l : Expr} {tl : TE} (h : PE X l tl) (e : X.K = K) : PI X tg l (iList K tl) := e ▸ pi_list h
theorem pi_tupK {tg l : Expr} {tl : TE} (h : PE X l tl) (e : X.K = K) : PI X tg l (iTup K tl) := e ▸ pi_tup h
theorem pi_zipK {e1 e2 : Expr} {ta : TA} {p pos tpos : Pos} {elts : List Expr} {kk : Nat} (hg : Gl X "zip") (hm : X.mg "zip" = none) (ha : PA X [e1, e2] ta) (e : X.K = K)
    (he : starEach [e1, e2] X.env = (false, eval e1 X.env) :: starEach [e2] X.env := by rfl) (hpl : (backTo pos (starEach [e2] X.env)).any (·.1) = false := by rfl) :
    PI X (.Tuple elts kk tpos) (.Call (.Name "zip" p) [e1, e2] [] pos) (RZ.iZipA K ta) := e ▸ RZ.pi_zipA hg hm ha he hpl
theorem pi_enumK {e1 : Expr} {ta : TA} {p pos tpos : Pos} {elts : List Expr} {kk : Nat} (hg : Gl X "enumerate") (hm : X.mg "enumerate" = none) (ha : PA X [e1] ta) (e : X.K = K)
    (he : starEach [e1] X.env = [(false, eval e1 X.env)] := by rfl) :
    PI X (.Tuple elts kk tpos) (.Call (.Name "enumerate" p) [e1] [] pos) (iEnum K ta) := e ▸ pi_enum hg hm ha he
end
end Mir
namespace Mir
open PySem PySem.Spec PyProof.Rows L2
variable [Nm]
theorem ne_of_st {α : Type} {r : Rp α} {A : List Addr} {q v : Addr} {H : Hp} {xs : List α} (st : q ∈ A ∨ H q = none) (n : v ∉ A) (h : Ls r H v xs) : v ≠ q := fun e => st.elim (fun m => n (e ▸ m)) fun z => h.ne z e
end Mir
namespace Mir
open PySem PySem.Spec PyProof.Rows L2
variable [Nm]
/-! ### a list that is put into something stands still from then on -/
def tFrz (t : TE) : TE := fun σ H Q => t σ H fun v H1 => ∃ a u, v = .ref a ∧ H1 a = some u ∧ Mut (some u) ∧ ∀ od, Q v (upd H1 a (.frz od u))
theorem pe_frz {X : Cx} {e : Expr} {t : TE} (h : PE X e t) : PE X e (tFrz t) := ⟨fun pins s σ H Q I hw => thn (h.run pins s σ H _ I hw) fun v s1 hh => by
  obtain ⟨x, H1, I1, r, a, u, rfl, ha, mu, q⟩ := hh
  obtain ⟨od, I2⟩ := I1.lock ha mu
  exact ⟨.ref a, _, I2, r, q od⟩⟩
section
variable {α : Type} {K : PySem.W.Frag} {r : Rp α} {H H' : Hp} {a b : Addr} {xs : List α} {vs : List V} {v : V} {Q : VK}
/-- a list that stands still -/
def rZ (r : Rp α) : Rp (List α) := fun H xs v => ∃ a o vs, v = .ref a ∧ H a = some (.frz o (.lst vs)) ∧ Paired (r H) xs vs
instance [Imm r] : Imm (rZ r) := ⟨fun g ⟨a, o, vs, e, h, h2⟩ => ⟨a, o, vs, e, g _ _ h rfl, Paired.im g h2⟩⟩
theorem rZ_q (h : rZ r H xs v) : ∃ a, v = .ref a ∧ Lq K r H a xs := let ⟨a, o, vs, e, h1, h2⟩ := h; ⟨a, e, vs, .inl (.inr ⟨o, h1⟩), h2⟩
theorem Im.frz {o : Obj} {u : HO} (h : H a = some u) (k : kd u ≠ 0) : Im H (upd H a (.frz o u)) := fun b w q z => by
  by_cases e : b = a
  · subst e
    rw [h] at q
    cases q
    exact absurd z k
  · rw [upd_ne e]
    exact q
/-- what the freezing of the list at a leaves of the rest -/
structure Fz (a : Addr) (H H' : Hp) : Prop where
  im : Im H H'
  ne : ∀ b o, b ≠ a → H b = some o → H' b = some o
  at_ : H' a ≠ none
def frzA (Q : VK) (v : V) (H1 : Hp) : Prop := ∃ b u, v = .ref b ∧ H1 b = some u ∧ Mut (some u) ∧ ∀ od, Q v (upd H1 b (.frz od u))
/-- the form that a printed text uses: the value is a list of its own at hand -/
theorem fz_L [Imm r] (h : Ls r H a xs) (q : ∀ H2, Fz a H H2 → rZ r H2 xs (.ref a) → Q (.ref a) H2) : frzA Q (.ref a) H := by
  obtain ⟨vs, h1, h2⟩ := h
  have g : ∀ od, Im H (upd H a (.frz od (.lst vs))) := fun od => Im.frz h1 (by show 1 ≠ 0; decide)
  exact ⟨a, _, rfl, h1, trivial, fun od => q _ ⟨g od, fun b o n hb => by rw [upd_ne n]; exact hb, by rw [upd_same]; intro z; cases z⟩ ⟨a, od, vs, rfl, upd_same, Paired.im (g od) h2⟩⟩
theorem rd_frzE {t : TE} {σ : L2.St} (h : t σ H (frzA Q)) : tFrz t σ H Q := h
theorem Ls.fz [Imm r] (g : Fz a H H') (n : b ≠ a) (h : Ls r H b xs) : Ls r H' b xs := let ⟨vs, h1, h2⟩ := h; ⟨vs, g.ne _ _ n h1, Paired.im g.im h2⟩
theorem Gr.fz {A : List Addr} {H0 : Hp} (g : Gr A H0 H) (n : H0 a = none) (f : Fz a H H') : Gr A H0 H' := ⟨fun b o h => by
  obtain ⟨o', h1, h2⟩ := g.ob b o h
  exact ⟨o', f.ne _ _ (fun e => by rw [e, n] at h; cases h) h1, h2⟩, fun P t => by
  obtain ⟨ps, h1, h2, h3⟩ := g.tb P t
  refine ⟨ps, f.ne _ _ (fun e => ?_) h1, h2, fun pos cv hc => ?_⟩
  · obtain ⟨_, t1, _⟩ := t
    rw [e, n] at t1
    cases t1
  · obtain ⟨c, e1, e2⟩ := h3 pos cv hc
    exact ⟨c, e1, f.im _ _ e2 kd_code⟩⟩
end
end Mir
set_option Elab.async false
set_option linter.all false
set_option maxRecDepth 100000
namespace Mir
open PySem PySem.Spec PyProof.Rows L2 NdefX
variable [Nm]
open LamX (CodeO TabB)
/-! ### lambdas with parameters, handed to a def -/
/-- the words of a lambda -/
structure LW where
  qual : Str
  params : Arguments
  body : Expr
  scope : Scope
abbrev LW.nf (L : LW) (cl : List (Str × Addr)) (c : Addr) : NF := ⟨"<lambda>", L.qual, L.params, [], L.scope, cl, c⟩
/-- the object at f is the lambda -/
def LamObj (L : LW) (f c : Addr) (cl : List (Str × Addr)) (h : Heap) : Prop := ∃ pm ctv : Value, h.get? f = some (PySem.W.kla_obj "<lambda>" L.qual L.params L.body L.scope cl pm c ctv)
/-- what a lambda promises: sp ws, ws what its captured cells hold -/
structure LOk (P : Program) (w : World) (K : PySem.W.Frag) (mg : Str → Option Value) (base : Heap) (CX : CXT) (k : Nat) (L : LW) (ps fr : List Str) (sp : List (Option V) → Sp) : Prop where
  len : ∀ ws vs H Q E, sp ws vs H Q E → vs.length = ps.length
  run : ∀ (A : Around) (outer : List Env) (s : Shared) (H : Hp) (us : List Value) (vs : List V) (ws : List (Option V)) (Q : VK) (E : XK) (f c : Addr) (cl : List (Str × Addr)), Room k A → Env0 P w K mg base A outer s H → LamObj L f c cl s.heap → H c = some (CodeO c L.qual) →
    CellsAt cl fr ws s.heap H → Vals vs us → sp ws vs H Q E → codeAny (model P w) A (.call (.ref f) ⟨us, []⟩) (CR CX outer P w H s Q E) s
section
variable {CX : CXT} {P : Program} {w : World} {K : PySem.W.Frag} {mg : Str → Option Value} {base : Heap} {N ps fr : List Str} {L : LW} {k j : Nat} {sp : List (Option V) → Sp}
theorem LOk.mono (o : LOk P w K mg base CX j L ps fr sp) (h : j ≤ k) : LOk P w K mg base CX k L ps fr sp := ⟨o.len, fun A outer s H us vs ws Q E f c cl hr => o.run A outer s H us vs ws Q E f c cl (hr.mono h)⟩
theorem lok_of (S : NScope N ps fr L.scope) (hb : ∀ (cl : List (Str × Addr)) (pm cv ctv : Value) (us : List Value), us.length = ps.length → bindArgs (PySem.W.kla_fn "<lambda>" L.qual L.params L.body L.scope cl pm cv ctv) ⟨us, []⟩ = pure (ps.zip us))
    (len : ∀ ws vs H Q E, sp ws vs H Q E → vs.length = ps.length)
    (hbody : ∀ (A : Around) (outer : List Env) (s : Shared) (H : Hp) (vs : List V) (ws : List (Option V)) (Q : VK) (E : XK) (f c : Addr) (cl : List (Str × Addr)), Room k (A.deeper (envF (L.nf cl c) f s.heap.objs.size)) → sp ws vs H Q E →
      ∃ t : TE, PE (ncx CX P w K mg base N (L.nf cl c) f A outer s H E) L.body t ∧ t (startF N vs ws) H Q) :
    LOk P w K mg base CX (k + 1) L ps fr sp := by
  refine ⟨len, fun A outer s H us vs ws Q E f c cl hr e0 hf hc C r hsp => ?_⟩
  have hl := len _ _ _ _ _ hsp
  have lim : s.heap.NoLimit := e0.mod.nolimit.keeps fun b o e => (e0.bs b o e).1
  obtain ⟨pm, ctv, ho⟩ := hf
  refine PySem.W.kla_callFunE hr.depth ho rfl S.co S.gen rfl (codeO_at e0.hok hc) ?_
  rw [hb cl pm _ ctv us (by rw [← r.length]; exact hl)]
  refine wpAny_pure (wpAny_newFunctionEnv S.nocell (fun ⟨n, _⟩ hy => S.par n (List.of_mem_zip hy).1) (fun h₁ hns hsb => ⟨lim.fresh _ hsb, ?_⟩) S.kind)
  show codeAny _ _ (.expr L.body (envF (L.nf cl c) f s.heap.objs.size)) _ _
  have kp : ∀ b o, s.heap.get? b = some o → h₁.get? b = some o := fun b o e => hsb.extBut b o (Nat.ne_of_lt (Heap.lt_size e)) (Heap.get?_push_of_some _ e)
  obtain ⟨t, ht, hq⟩ := hbody A outer s H vs ws Q E f c cl (hr.deeper _) hsp
  have I : Inv (ncx CX P w K mg base N (L.nf cl c) f A outer s H E) [] (startF N vs ws) H { s with heap := h₁, toks := s.toks + (ps.zip us).length } := inv_startN S hr.hd e0 hl r C hns kp
  refine PySem.W.kla_codeExpr (wpAny_mono (ht.run [] _ (startF N vs ws) H _ I hq) (fun v s' hs => ?_) fun e s' hs => hs)
  obtain ⟨w', H', J, rv, q⟩ := hs
  exact ⟨w', H', J.os, J.bare, J.base, J.hok, rv, q⟩
end
/-- the lambda at the entry of the def that got it -/
structure LamEnt (L : LW) (f c : Addr) (cl : List (Str × Addr)) (fr : List Str) (ws : List (Option V)) (fs : List Addr) (s : Shared) (H : Hp) : Prop where
  obj : LamObj L f c cl s.heap
  fn : H f = none
  nfr : f ∉ fs
  cells : CellsAt cl fr ws s.heap H
section
variable {X : Cx} {pins : List (Addr × Obj)} {σ : L2.St} {H : Hp} {s : Shared} {cl : List (Str × Addr)} {fr : List Str} {ws : List (Option V)} {L : LW} {f c : Addr}
theorem cells_later (C : CellsAt cl fr ws X.s_0.heap X.H_0) (hx : X.ex = []) (I : Inv X pins σ H s) : CellsAt cl fr ws s.heap H := by
  have nx : ∀ b : Addr, b ∉ X.ex := fun b z => by
    rw [hx] at z
    exact absurd z (by simp)
  have kp : ∀ y c, cl.lookup y = some c → ∀ v, X.s_0.heap.IsCell c v → s.heap.IsCell c v := fun y c e v ⟨o, ho, hd⟩ => by
    obtain ⟨sl, q⟩ := I.base.any ho (C.all y c e).1 (nx c)
    exact ⟨_, q, hd⟩
  refine ⟨C.len, fun y c e => ?_, C.inj, fun i y e => ?_⟩
  · obtain ⟨n, v, z⟩ := C.all y c e
    refine ⟨?_, v, kp y c e v z⟩
    obtain ⟨o, ho, _⟩ := z
    exact I.base.free c o ho n (nx c)
  · obtain ⟨c, hc, hv⟩ := C.has i y e
    refine ⟨c, hc, fun v ev => ?_⟩
    obtain ⟨u, r, z⟩ := hv v ev
    exact ⟨u, r, kp y c hc _ z⟩
theorem obj_later (T : LamEnt L f c cl fr ws X.fs X.s_0 X.H_0) (hx : X.ex = []) (I : Inv X pins σ H s) : LamObj L f c cl s.heap := by
  obtain ⟨pm, ctv, ho⟩ := T.obj
  exact ⟨pm, ctv, I.base.keep f _ ho T.fn T.nfr fun z => by
    rw [hx] at z
    exact absurd z (by simp)⟩
theorem lam_fnAt {h : Heap} (o : LamObj L f c cl h) : PySem.W.FnAt f h := by
  obtain ⟨pm, ctv, ho⟩ := o
  exact ⟨_, _, _, _, ho⟩
end
/-- x(..), x a name that holds the lambda -/
def tAct (i : Nat) (f c : Addr) (q : Str) (sp : Sp) (E : L2.St → XK) (t : TA) : TE := fun σ H Q => σ[i]? = some (some (.ref f)) ∧ t σ H fun vs H1 => H1 c = some (CodeO c q) ∧ sp vs H1 Q (E σ)
section
variable {X : Cx} {CX : CXT} {cl : List (Str × Addr)} {ps fr : List Str} {ws : List (Option V)} {i j k : Nat} {x : Str} {L : LW} {f c : Addr} {sp : List (Option V) → Sp} {E : L2.St → XK} {t : TA} {e : Expr} {es : List Expr} {p pos : Pos}
theorem pe_act (T : LamEnt L f c cl fr ws X.fs X.s_0 X.H_0) (hX : X.ex = []) (O : LOk X.prog X.w X.K X.mg X.base CX k L ps fr sp) (hr : Room j X.A) (hk : k ≤ j) (hx : ∀ σ, PassesAt CX X σ (E σ)) (hN : X.N[i]? = some x) (hv : Vis X.env.scope x) (ha : PA X (e :: es) t)
    (hd : (x == ("__debug__" : Str)) = false := by decide) (hcd : (x == ("__classdict__" : Str)) = false := by decide)
    (he : starEach (e :: es) X.env = (false, eval e X.env) :: starEach es X.env := by rfl) (hpl : (backTo pos (starEach es X.env)).any (·.1) = false := by rfl) :
    PE X (.Call (.Name x p) (e :: es) [] pos) (tAct i f c L.qual (sp ws) E t) := by
  refine ⟨fun pins s σ H Q I h => ?_⟩
  obtain ⟨hs, ht⟩ := h
  refine wpAny_Call_Name_kw (thn ((pe_var (pos := p) hN hv hd hcd).run pins s σ H (fun v H1 => v = .ref f ∧ H1 = H) I ⟨.ref f, hs, rfl, rfl⟩) fun u s1 ⟨v, H1, I1, r1, q1⟩ => ?_)
  obtain ⟨ev, eH⟩ := q1
  subst ev
  rw [eH] at I1
  obtain rfl : u = Value.ref f := r1
  refine PySem.W.callWith_F (first := []) (lam_fnAt (obj_later T hX I1)) (thn (ha.run pos pins s1 σ H _ I1 ht) fun us s2 ⟨vs, H2, I2, r, h2, q⟩ => ⟨lam_fnAt (obj_later T hX I2), ?_⟩) he hpl
  show wpAny _ _ (call (.ref f) us) _ _ _
  refine wpAny_call (codeAny_mono (O.run X.A X.stack s2 H2 us vs ws Q (E σ) f c cl (hr.mono hk) I2.env0 (obj_later T hX I2) h2 (cells_later T.cells hX I2) r q) fun r s' hq => ?_)
  cases r with
  | error e => exact hx σ pins H2 s2 e s' I2 hq
  | ok fl =>
    cases fl with
    | ret u => exact I2.after hq
    | next => exact False.elim hq
    | brk => exact False.elim hq
    | cont => exact False.elim hq
end
/-! ### the def that gets the lambda -/
/-- its promise, told of the very state: the lambda's object stands there, its captured cells hold ws -/
structure FnOkC (P : Program) (w : World) (K : PySem.W.Frag) (mg : Str → Option Value) (base : Heap) (CX : CXT) (k : Nat) (f : Addr) (fd : FuncData) (ps : List Str) (L : LW) (fr : List Str) (sp : Addr → Addr → List (Option V) → Sp) : Prop where
  len : ∀ lf lc ws vs H Q E, sp lf lc ws vs H Q E → vs.length = ps.length
  run : ∀ (A : Around) (outer : List Env) (s : Shared) (H : Hp) (args : Args) (us : List Value) (vs : List V) (Q : VK) (E : XK) (lf lc : Addr) (cl : List (Str × Addr)) (ws : List (Option V)), Room k A → Env0 P w K mg base A outer s H → LamEnt L lf lc cl fr ws (frs outer) s H →
    BindsTo s fd args (ps.zip us) → Vals vs us → sp lf lc ws vs H Q E → codeAny (model P w) A (.call (.ref f) args) (CR CX outer P w H s Q E) s
def CalC (P : Program) (w : World) (K : PySem.W.Frag) (mg : Str → Option Value) (base : Heap) (CX : CXT) (k : Nat) (x : Str) (ps : List Str) (L : LW) (fr : List Str) (sp : Addr → Addr → List (Option V) → Sp) : Prop :=
  ∃ (f : Addr) (fd : FuncData), FnOkC P w K mg base CX k f fd ps L fr sp ∧ mg x = some (.ref f) ∧ PySem.W.keepIn K (.ref f) = true ∧ Binds K fd ps []
section
variable {P : Program} {w : World} {K : PySem.W.Frag} {mg : Str → Option Value} {base : Heap} {L : LW} {fr : List Str}
theorem fun_okC {CX : CXT} {x qual : Str} {st : Stmt} {f : Addr} {fd : FuncData} {N ps : List Str} {k : Nat} {sp : Addr → Addr → List (Option V) → Sp} (F : Fun K x qual st f fd) (S : FnScope N ps (defScope st)) (len : ∀ lf lc ws vs H Q E, sp lf lc ws vs H Q E → vs.length = ps.length)
    (hbody : ∀ (cdv : Value) (A : Around) (outer : List Env) (s : Shared) (H : Hp) (vs : List V) (Q : VK) (E : XK) (lf lc : Addr) (cl : List (Str × Addr)) (ws : List (Option V)), Room k (A.deeper (envOfC qual (defScope st) s.heap.objs.size f cdv)) → LamEnt L lf lc cl fr ws (frs outer) s H → sp lf lc ws vs H Q E →
      ∃ t, PSs (cxOf CX P w K mg base N qual (defScope st) f cdv A outer s H E) (defBody st) t ∧ t { nx := fun _ H' => Q .non H', rt := Q } (start N vs) H) : FnOkC P w K mg base CX (k + 1) f fd ps L fr sp := by
  obtain ⟨oc, od, kV, doc, pm, an, cdv, ct, osl, rfl, lk, hcd⟩ := F.ex
  exact ⟨len, fun A outer s H args us vs Q E lf lc cl ws hr e0 T hb r hsp => LamX.run_ofS lk hcd S hr e0 hb r (len _ _ _ _ _ _ _ hsp) fun hr' => hbody cdv A outer s H vs Q E lf lc cl ws hr' T hsp⟩
/-- the same for a def that lets nothing out -/
theorem fun_okC0 {x qual : Str} {st : Stmt} {f : Addr} {fd : FuncData} {N ps : List Str} {k : Nat} {sp : Addr → Addr → List (Option V) → Sp} (F : Fun K x qual st f fd) (S : FnScope N ps (defScope st)) (len : ∀ lf lc ws vs H Q E, sp lf lc ws vs H Q E → vs.length = ps.length)
    (hbody : ∀ (cdv : Value) (A : Around) (outer : List Env) (s : Shared) (H : Hp) (vs : List V) (Q : VK) (E : XK) (lf lc : Addr) (cl : List (Str × Addr)) (ws : List (Option V)), Room k (A.deeper (envOfC qual (defScope st) s.heap.objs.size f cdv)) → LamEnt L lf lc cl fr ws (frs outer) s H → sp lf lc ws vs H Q E →
      ∃ t, PSs (cxOf CX0 P w K mg base N qual (defScope st) f cdv A outer s H E).nox (defBody st) t ∧ t { nx := fun _ H' => Q .non H', rt := Q } (start N vs) H) : FnOkC P w K mg base CX0 (k + 1) f fd ps L fr sp :=
  fun_okC F S len fun cdv A outer s H vs Q E lf lc cl ws hr T h =>
    let ⟨t, p, q⟩ := hbody cdv A outer s H vs Q E lf lc cl ws hr T h
    ⟨t, p.nox, q⟩
end
/-! ### the maker -/
/-- a def that makes lambdas: as Fun, and its code object at c has the table P -/
structure FunT (K : PySem.W.Frag) (x qual : Str) (st : Stmt) (f : Addr) (fd : FuncData) (c P : Addr) : Prop where
  ex : ∃ (oc : Value) (od : Option Addr) (kV doc pm : Value) (an : Option Addr) (ct : Value) (osl : Array (Option Value)),
    fd = PySem.W.fnOf x qual (defArgs st) (defBody st) (defScope st) .none kV doc pm an (.ref c) ct ∧ K.lookup f = some ⟨oc, od, .func fd, osl⟩ ∧ PySem.W.codeIn K (.ref c) qual = true
section
variable {P : Program} {w : World} {K : PySem.W.Frag} {mg : Str → Option Value} {base : Heap}
theorem funT_ok {x qual : Str} {st : Stmt} {f c PT : Addr} {fd : FuncData} {N ps : List Str} {k : Nat} {sp : Sp} (F : FunT K x qual st f fd c PT) (S : FnScope N ps (defScope st)) (len : ∀ vs H Q E, sp vs H Q E → vs.length = ps.length)
    (hbody : ∀ (A : Around) (outer : List Env) (s : Shared) (H : Hp) (vs : List V) (Q : VK) (E : XK), Room k (A.deeper (envOfC qual (defScope st) s.heap.objs.size f (.ref c))) → sp vs H Q E →
      ∃ t, PSs (cxOf CX0 P w K mg base N qual (defScope st) f (.ref c) A outer s H E).nox (defBody st) t ∧ t { nx := fun _ H' => Q .non H', rt := Q } (start N vs) H) : FnOk P w K mg base CX0 (k + 1) f fd ps sp := by
  obtain ⟨oc, od, kV, doc, pm, an, ct, osl, rfl, lk, hcd⟩ := F.ex
  refine fn_of lk hcd S len fun A outer s H vs Q E hr hsp => ?_
  obtain ⟨t, h, q⟩ := hbody A outer s H vs Q E hr hsp
  exact ⟨t, h.nox, q⟩
theorem funT_okX {x qual : Str} {st : Stmt} {f c PT : Addr} {fd : FuncData} {N ps : List Str} {k : Nat} {sp : Sp} (F : FunT K x qual st f fd c PT) (S : FnScope N ps (defScope st)) (len : ∀ vs H Q E, sp vs H Q E → vs.length = ps.length)
    (hbody : ∀ (A : Around) (outer : List Env) (s : Shared) (H : Hp) (vs : List V) (Q : VK) (E : XK), Room k (A.deeper (envOfC qual (defScope st) s.heap.objs.size f (.ref c))) → sp vs H Q E →
      ∃ t, PSs (cxOf (L2.CX P w) P w K mg base N qual (defScope st) f (.ref c) A outer s H E) (defBody st) t ∧ t { nx := fun _ H' => Q .non H', rt := Q } (start N vs) H) : FnOk P w K mg base (L2.CX P w) (k + 1) f fd ps sp := by
  obtain ⟨oc, od, kV, doc, pm, an, ct, osl, rfl, lk, hcd⟩ := F.ex
  exact fn_of lk hcd S len fun A outer s H vs Q E hr hsp => hbody A outer s H vs Q E hr hsp
end
/-- the arguments, the last one a lambda -/
def LP (X : Cx) (L : LW) (pins : List (Addr × Obj)) (σ : L2.St) (Q : Addr → Addr → List V → Hp → Prop) (us : List Value) (s' : Shared) : Prop := ∃ lf lc vs H', Inv X pins σ H' s' ∧ Vals vs us ∧ LamObj L lf lc (cloFrom X.env.cells L.scope.names []) s'.heap ∧ H' lf = none ∧ lf ∉ frs X.stack ∧ Q lf lc vs H'
abbrev TL := L2.St → Hp → (Addr → Addr → List V → Hp → Prop) → Prop
structure PL (X : Cx) (L : LW) (es : List Expr) (t : TL) : Prop where
  run : ∀ (pos : Pos) (pins : List (Addr × Obj)) (s : Shared) (σ : L2.St) (H : Hp) (Q : Addr → Addr → List V → Hp → Prop), Inv X pins σ H s → t σ H Q → wpAny (model X.prog X.w) X.A (spliced (backTo pos (starEach es X.env))) (LP X L pins σ Q) X.xe s
def tlNil (P : Addr) (q : Str) : TL := fun _ H Q => TabN H P Nm.nm ∧ ∀ lf lc H1, Gr [] H H1 → H1 lc = some (CodeO lc q) → Q lf lc [.ref lf] H1
def tlCons (ta : TE) (t : TL) : TL := fun σ H Q => ta σ H fun x H1 => t σ H1 fun lf lc xs H2 => Q lf lc (x :: xs) H2
section
variable {X : Cx} {CX : CXT} {L : LW} {e : Expr} {es : List Expr} {te : TE} {t : TL} {c PT : Addr} {params : Arguments} {body : Expr} {scope : Scope} {lpos : Pos}
theorem pl_nil (TB : TabB X.base X.mg c PT) (hcode : X.env.code = .ref c) (hq : L.qual = X.env.qual ++ "<lambda>") (hnm : Nm.nm lpos.line lpos.col = L.qual) (hdef : defaultsOf L.params X.env = ([], [])) (hfree : ∀ y ∈ L.scope.names, y.2 = .free → X.env.scope.names.lookup y.1 = some .cell ∨ X.env.scope.names.lookup y.1 = some .free)
    (hs : starEach [.Lambda L.params L.body L.scope lpos] X.env = (false, eval (.Lambda L.params L.body L.scope lpos) X.env) :: starEach [] X.env := by rfl) :
    PL X L [.Lambda L.params L.body L.scope lpos] (tlNil PT L.qual) := by
  refine ⟨fun pos pins s σ H Q I h => ?_⟩
  rw [hs]
  show wpAny _ _ (spliced ((false, eval (.Lambda L.params L.body L.scope lpos) X.env) :: backTo pos (starEach [] X.env))) _ _ s
  obtain ⟨⟨tab, hP, tok, known⟩, hgo⟩ := h
  have fin : ∀ (f c' : Addr) (pm ctv : Value) (H1 : Hp) (s' : Shared), Inv X pins σ H1 s' → Gr [] H H1 → s'.heap.get? f = some (PySem.W.kla_obj "<lambda>" L.qual L.params L.body L.scope (cloFrom X.env.cells L.scope.names []) pm c' ctv) → H1 f = none → s.heap.objs.size ≤ f → H1 c' = some (CodeO c' L.qual) →
      wpAny (model X.prog X.w) X.A (spliced []) (fun us s2 => LP X L pins σ Q (.ref f :: us) s2) X.xe s' := fun f c' pm ctv H1 s' I1 g hf hn hge hco =>
    Calls.spliced_nil ⟨f, c', [.ref f], H1, I1, .cons rfl .nil, ⟨pm, ctv, hf⟩, hn, fun z => by
      rcases List.mem_cons.mp (I.stkSub _ z) with e | e
      · have h1 := I.lt
        rw [← e] at h1
        exact Nat.lt_irrefl _ (Nat.lt_of_lt_of_le h1 hge)
      · exact I.nofs hge e, hgo f c' H1 g hco⟩
  have cfr : closureFor L.scope X.env = pure (cloFrom X.env.cells L.scope.names []) := closure_ok fun y hy e => (hfree y hy e).elim (fun z => I.ok.has _ (.inl z)) fun z => I.ok.has _ (.inr z)
  refine Calls.spliced_cons (PySem.W.kla_eval hdef ?_)
  have bmP := TB.bm.keeps I.bk
  have at0 : s.heap.get? PT = some { cls := .none, data := .fields tab } := I.hok PT _ hP
  rw [← hq]
  by_cases hn : codeAmong lpos tab.toList = none
  · refine PySem.W.kla_makeFunction (mg := X.mg) (c := c) (P := PT) (ps := tab) cfr I.ok.glob (I.mod.glob.keeps I.bk) hcode (TB.code.keeps I.bk) at0 tok hn TB.gP bmP fun c' ctv h' tk grows le lt rec here => ?_
    obtain ⟨_, oc, us, t, e, g1, g2, g3⟩ := rec
    cases e
    have newC : H c' = none := I.hok.fresh le
    have le2 : s.heap.objs.size ≤ h'.objs.size := Nat.le_trans le (Nat.le_of_lt lt)
    have ne1 : h'.objs.size ≠ c' := Nat.ne_of_gt lt
    have ne2 : h'.objs.size ≠ PT := Nat.ne_of_gt (Nat.lt_of_lt_of_le (Heap.lt_size at0) le2)
    have stay : ∀ b o, b ≠ PT → H b = some o → upd (upd H PT (.tbl (tab ++ #[rawInt lpos.line, rawInt lpos.col, .ref c']))) c' (CodeO c' L.qual) b = some o := fun b o n e => by rw [upd_ne (ne_of_none e newC), upd_ne n, e]
    have J := LamX.inv_table (q := L.qual) (t' := tk) (more := #[rawInt lpos.line, rawInt lpos.col, .ref c']) (h' := h'.push (PySem.W.kla_obj "<lambda>" L.qual L.params L.body L.scope (cloFrom X.env.cells L.scope.names []) ((X.mg "__name__").getD .none) c' ctv)) I hP
      (fun b o n e => Heap.get?_push_of_some _ (grows b o n e)) (Heap.get?_push_of_some _ here) le ⟨oc, us, t, Heap.get?_push_of_some _ g1, g2, g3⟩
    refine fin _ c' _ ctv _ _ J ⟨fun b o e => ?_, fun P T => ?_⟩ (Heap.get?_push_size _ rfl) ?_ le2 upd_same
    · by_cases n : b = PT
      · subst n
        rw [hP] at e
        cases e
        exact ⟨_, by rw [upd_ne (ne_of_none hP newC), upd_same], .inr (.inr ⟨rfl, rfl⟩)⟩
      · exact ⟨o, stay b o n e, .inl rfl⟩
    · obtain ⟨p2, a1, a2, a3⟩ := T
      have kn : ∀ (c0 : Addr) (q : Str), H c0 = some (CodeO c0 q) → upd (upd H PT (.tbl (tab ++ #[rawInt lpos.line, rawInt lpos.col, .ref c']))) c' (CodeO c' L.qual) c0 = some (CodeO c0 q) := fun c0 q e => stay c0 _ (fun z => by
        rw [z, hP] at e
        cases e) e
      by_cases n : P = PT
      · subst n
        rw [hP] at a1
        cases a1
        have el : (tab ++ #[rawInt lpos.line, rawInt lpos.col, .ref c']).toList = tab.toList ++ [rawInt lpos.line, rawInt lpos.col, .ref c'] := by simp
        refine ⟨_, by rw [upd_ne (ne_of_none hP newC), upd_same], by rw [el]; exact PySem.TriplesOk_snoc _ _ _ _ a2, fun p cv hc => ?_⟩
        rw [el] at hc
        rcases among_app2 _ a2 hc with z | ⟨z, z1, z2⟩
        · obtain ⟨c0, e1, e2⟩ := a3 p cv z
          exact ⟨c0, e1, kn c0 _ e2⟩
        · exact ⟨c', z, by rw [← z1, ← z2, hnm]; exact upd_same⟩
      · refine ⟨p2, stay P _ n a1, a2, fun p cv hc => ?_⟩
        obtain ⟨c0, e1, e2⟩ := a3 p cv hc
        exact ⟨c0, e1, kn c0 _ e2⟩
    · rw [upd_ne ne1, upd_ne ne2]
      exact I.hok.fresh le2
  · obtain ⟨cv, hcv⟩ := Option.ne_none_iff_exists'.mp hn
    obtain ⟨c', e, hco⟩ := known lpos cv hcv
    subst e
    rw [hnm] at hco
    refine PySem.W.kla_makeFunctionHit (mg := X.mg) (c := c) (P := PT) (ps := tab) cfr I.ok.glob (I.mod.glob.keeps I.bk) hcode (TB.code.keeps I.bk) at0 tok hcv bmP fun ctv h' tk grows le => ?_
    exact fin _ c' _ ctv H _ (I.kept fun b o e => Heap.get?_push_of_some _ (grows b o e)) (Gr.refl H) (Heap.get?_push_size _ rfl) (I.hok.fresh le) le hco
theorem pl_cons (he : PE X e te) (hr : PL X L es t) (hs : starEach (e :: es) X.env = (false, eval e X.env) :: starEach es X.env := by rfl) : PL X L (e :: es) (tlCons te t) := by
  refine ⟨fun pos pins s σ H Q I h => ?_⟩
  rw [hs]
  show wpAny _ _ (spliced ((false, eval e X.env) :: backTo pos (starEach es X.env))) _ _ s
  refine Calls.spliced_cons (thn (he.run pins s σ H _ I h) fun u s1 ⟨x, H1, I1, r1, q1⟩ => ?_)
  exact thn (hr.run pos pins s1 σ H1 _ I1 q1) fun us s2 ⟨lf, lc, xs, H2, I2, r2, o, n, nf, q2⟩ => ⟨lf, lc, x :: xs, H2, I2, .cons r1 r2, o, n, nf, q2⟩
/-- g(.., lambda ..) -/
def tCallL (js : List Nat) (sp : Addr → Addr → List (Option V) → Sp) (E : L2.St → XK) (t : TL) : TE := fun σ H Q => t σ H fun lf lc vs H1 => sp lf lc (js.map (slotAt σ)) vs H1 Q (E σ)
theorem pe_callL {fr ps : List Str} {js : List Nat} {k : Nat} {f : Addr} {fd : FuncData} {x : Str} {sp : Addr → Addr → List (Option V) → Sp} {E : L2.St → XK} {p pos : Pos}
    (F : FnOkC X.prog X.w X.K X.mg X.base CX k f fd ps L fr sp) (hr : Room k X.A) (hg : Gl X x) (hm : X.mg x = some (.ref f)) (hk : PySem.W.keepIn X.K (.ref f) = true) (hb : Binds X.K fd ps []) (hx : ∀ σ, PassesAt CX X σ (E σ)) (cp : X.Ok → Caps X (cloFrom X.env.cells L.scope.names []) fr js)
    (ha : PL X L (e :: es) t) (hdb : (x == ("__debug__" : Str)) = false := by decide) (he : starEach (e :: es) X.env = (false, eval e X.env) :: starEach es X.env := by rfl) (hpl : (backTo pos (starEach es X.env)).any (·.1) = false := by rfl) :
    PE X (.Call (.Name x p) (e :: es) [] pos) (tCallL js sp E t) := by
  refine ⟨fun pins s σ H Q I h => ?_⟩
  refine wpAny_Call_Name_kw (ld_glob I hg hm ?_ hdb)
  refine PySem.W.callWith_K (h₀ := X.base) I.ok.mod.kin hk (thn (ha.run pos pins s σ H _ I h) fun us s1 ⟨lf, lc, vs, H1, I1, r, o, n, nf, q⟩ => ⟨I1.kIn, ?_⟩) he hpl
  have hl : us.length = ps.length := by rw [← r.length]; exact F.len _ _ _ _ _ _ _ q
  have b := hb s1 us I1.kIn (by rw [List.append_nil]; exact hl)
  rw [List.append_nil] at b
  have C := cells_of I1 (cp I1.ok)
  refine wpAny_call (codeAny_mono (F.run X.A X.stack s1 H1 ⟨us, []⟩ us vs Q (E σ) lf lc _ _ hr I1.env0 ⟨o, n, nf, C⟩ b r q) fun r s' hq => ?_)
  cases r with
  | error e => exact hx σ pins H1 s1 e s' I1 hq
  | ok fl =>
    cases fl with
    | ret u => exact I1.after hq
    | next => exact False.elim hq
    | brk => exact False.elim hq
    | cont => exact False.elim hq
end
/-! ### readings -/
section
variable {σ : L2.St} {H : Hp} {Q : VK}
theorem rd_act {i : Nat} {f c : Addr} {q : Str} {sp : Sp} {E : L2.St → XK} {t : TA} (h1 : σ[i]? = some (some (.ref f))) (h : t σ H fun vs H1 => H1 c = some (CodeO c q) ∧ sp vs H1 Q (E σ)) : tAct i f c q sp E t σ H Q := ⟨h1, h⟩
theorem rd_callL {js : List Nat} {sp : Addr → Addr → List (Option V) → Sp} {E : L2.St → XK} {t : TL} (h : t σ H fun lf lc vs H1 => sp lf lc (js.map (slotAt σ)) vs H1 Q (E σ)) : tCallL js sp E t σ H Q := h
theorem rd_lcons {ta : TE} {t : TL} {Q : Addr → Addr → List V → Hp → Prop} (h : ta σ H fun x H1 => t σ H1 fun lf lc xs H2 => Q lf lc (x :: xs) H2) : tlCons ta t σ H Q := h
theorem rd_lnil {P : Addr} {q : Str} {Q : Addr → Addr → List V → Hp → Prop} (h1 : TabN H P Nm.nm) (h : ∀ lf lc H1, Gr [] H H1 → H1 lc = some (CodeO lc q) → Q lf lc [.ref lf] H1) : tlNil P q σ H Q := ⟨h1, h⟩
end
/-- the code object of a lambda -/
def rF (c : Addr) (q : Str) : Rp Unit := fun H _ _ => H c = some (CodeO c q)
instance {c : Addr} {q : Str} : Imm (rF c q) := ⟨fun g h => g _ _ h kd_code⟩
theorem rF_of {c : Addr} {q : Str} {H : Hp} {v : V} (h : H c = some (CodeO c q)) : rF c q H () v := h
/-- the tables of the program -/
def TabsA (TT : List Addr) (H : Hp) : Prop := ∀ P ∈ TT, TabN H P Nm.nm
theorem TabsA.gr {TT A : List Addr} {H H' : Hp} (t : TabsA TT H) (g : Gr A H H') : TabsA TT H' := fun P h => g.tb P (t P h)
theorem passN {X : Cx} : ∀ σ, PassesAt CX0 X σ ((fun _ => E0) σ) := fun _ _ _ _ _ _ _ h => (show False from h).elim
/-! ### where a lambda stands in a text -/
def aReturn (s : Stmt) : Expr := match s with
  | .Return (some e) _ => e
  | _ => .Constant .none 0 ⟨0, 0, 0, 0⟩
def aArg (i : Nat) (e : Expr) : Expr := match e with
  | .Call _ as _ _ => as.getD i e
  | _ => e
def aRight (e : Expr) : Expr := match e with
  | .BinOp _ _ r _ => r
  | _ => e
def aAssign (s : Stmt) : Expr := match s with
  | .Assign _ e _ => e
  | _ => .Constant .none 0 ⟨0, 0, 0, 0⟩
def aBody (i : Nat) (s : Stmt) : Stmt := match s with
  | .For _ _ b _ _ => b.getD i s
  | .FunctionDef _ _ b _ _ _ _ _ _ _ => b.getD i s
  | _ => s
def lwOf (q : Str) (e : Expr) : LW := match e with
  | .Lambda p b sc _ => ⟨q, p, b, sc⟩
  | _ => ⟨q, { posonlyargs := [], args := [], vararg := none, kwonlyargs := [], kw_defaults := [], kwarg := none, defaults := [] }, e, { kind := .function, names := [], isGenerator := false, isCoroutine := false }⟩
theorem funT_mk {K : PySem.W.Frag} {x qual : Str} {st : Stmt} {f c PT : Addr} {oc : Value} {od an : Option Addr} {osl : Array (Option Value)} {kV doc pm ct : Value} (l : K.lookup f = some ⟨oc, od, .func (PySem.W.fnOf x qual (defArgs st) (defBody st) (defScope st) .none kV doc pm an (.ref c) ct), osl⟩)
    (h : PySem.W.codeIn K (.ref c) qual = true) : FunT K x qual st f (PySem.W.fnOf x qual (defArgs st) (defBody st) (defScope st) .none kV doc pm an (.ref c) ct) c PT := ⟨⟨oc, od, kV, doc, pm, an, ct, osl, rfl, l, h⟩⟩
def posE (e : Expr) : Nat × Nat := match e with
  | .Lambda _ _ _ p => (p.line, p.col)
  | _ => (0, 0)
end Mir
set_option Elab.async false
set_option linter.all false
set_option maxRecDepth 100000
namespace Mir
open PySem PySem.Spec PyProof.Rows L2
variable [Nm]
/-! ### enumerate over a tuple -/
section
open PySem.AutoSeq1 (wpAny_loadPart')
theorem enumTup_makes (t : Addr) (items : Array Value) (n : Nat) (dd : Option Addr) (sl : Array (Option Value)) :
    Meets (Builtin.«enumerate.__new__» ⟨[.type "enumerate", .ref t], []⟩) (fun _ R s => s.heap.get? t = some { cls := .type "tuple", dict := dd, data := .seq items n, slots := sl } ∧
      R (.ok (.ret (.ref (s.heap.push { cls := .type "tuple_iterator", data := .fields #[.ref t, .int 0 0] }).objs.size)))
        { s with heap := (s.heap.push { cls := .type "tuple_iterator", data := .fields #[.ref t, .int 0 0] }).push { cls := .type "enumerate", data := .fields #[.none, .bool false, .ref s.heap.objs.size, rawInt 0, .none, .none] } }) :=
  .of_wp fun prog w A R s h => by
    obtain ⟨hp, g, d, tk, os⟩ := s; obtain ⟨ht, h⟩ := h
    have isSub := sub_enumerate
    have isT : Heap.IsTuple (Shared.heap ⟨hp, g, d, tk, os⟩) t items := ⟨_, ht, rfl, n, rfl⟩
    wp_walk using wpAny_loadPart' ht
    refine wpAny_stack_any fun st => wpAny_pure ?_
    split
    · rename_i c _ _ _ _ _
      cases (c == Value.type "enumerate") <;> (wp_walk using wpAny_loadPart' ht, wpAny_pyIter_tuple isT; exact ⟨_, rfl, h⟩)
    · wp_walk using wpAny_loadPart' ht, wpAny_pyIter_tuple isT
      exact ⟨_, rfl, h⟩
end
theorem call_enumT {prog : Program} {w : World} {A : Around} {E : Value → Shared → Prop} {s : Shared} {t : Addr} {items : Array Value} {Q : Value → Shared → Prop} (hT : s.heap.IsTuple t items)
    (h : ∀ h', IsEnum h' (s.heap.objs.size + 1) s.heap.objs.size 0 .none → h'.IsTupleIter s.heap.objs.size t 0 → h'.objs.size = s.heap.objs.size + 2 →
      (∀ b o, s.heap.get? b = some o → h'.get? b = some o) → Q (.ref (s.heap.objs.size + 1)) { s with heap := h' }) :
    wpAny (model prog w) A (call (.type "enumerate") [.ref t]) Q E s := by
  obtain ⟨⟨c, dd, dt, sl⟩, ht, e1, n, e2⟩ := hT
  obtain rfl : c = .type "tuple" := e1
  obtain rfl : dt = .seq items n := e2
  refine callType_new F.called_enumerate (by decide) (F.typeCall_enumerate_1 _) (F.newCall_enumerate_1 _) (fun obj => F.args_object_init_2 obj _) F.entry_enumerate_new (enumTup_makes t items n dd sl) ⟨ht, ?_⟩
  have z : (s.heap.push { cls := .type "tuple_iterator", data := .fields #[.ref t, .int 0 0] }).objs.size = s.heap.objs.size + 1 := Heap.size_push ..
  show _ ∧ _
  have he := Heap.get?_push_size (s.heap.push { cls := .type "tuple_iterator", data := .fields #[.ref t, .int 0 0] }) (o := { cls := .type "enumerate", data := .fields #[.none, .bool false, .ref s.heap.objs.size, rawInt 0, .none, .none] }) rfl
  rw [z] at he ⊢
  exact ⟨⟨_, he, rfl⟩, h _ he ⟨_, Heap.get?_push_of_some _ (Heap.get?_push_size _ rfl), rfl, rfl⟩ (by rw [Heap.size_push, z]) fun b o x => Heap.get?_push_of_some _ (Heap.get?_push_of_some _ x)⟩
/-- the tuple at a, its items in new pairs with their places -/
def ItT (K : PySem.W.Frag) (a : Addr) : It :=
  ⟨fun i H => ∃ (xs : List V) (x : V), SqT K H a xs ∧ xs[i]? = some x, fun i H v H' => ∃ T x, v = .ref T ∧ H T = none ∧ H' = upd H T (.tup [.int (i : Nat), x]) ∧ ∀ xs, SqT K H a xs → xs[i]? = some x, fun i H => ∃ xs : List V, SqT K H a xs ∧ xs.length ≤ i⟩
theorem turn_enumT {P : Program} {w : World} {K : PySem.W.Frag} {elts : List Expr} {kk : Nat} {tpos : Pos} (a e it : Addr) :
    Turn P w K (.Tuple elts kk tpos) (ItT K a) [e, it] e (fun i h => (∃ old, IsEnum h e it ((i : Nat) : Int) old) ∧ h.IsTupleIter it a i ∧ e ≠ it ∧ a ≠ e ∧ a ≠ it) where
  mem := by simp
  obj := fun i h st b hb => by
    obtain ⟨⟨old, he⟩, ⟨o, ho, hc, hd⟩, _⟩ := st
    have e' : b = e ∨ b = it := by simpa using hb
    rcases e' with z | z <;> rw [z]
    · exact ⟨_, he, fun v q => nomatch q⟩
    · exact ⟨o, ho, fun v q => by rw [hd] at q; cases q⟩
  keep := fun i h h' st k => let ⟨⟨old, he⟩, ⟨o, ho, r⟩, hne⟩ := st; ⟨⟨old, k e (by simp) _ he⟩, ⟨o, k it (by simp) _ ho, r⟩, hne⟩
  item := by
    intro X hP hw hK hc i pins s σ H E I hf st hg
    subst hP hw hK
    obtain ⟨⟨old, he⟩, hit, hne, n1, n2⟩ := st
    obtain ⟨xs, x, hq, hx⟩ := hg
    obtain ⟨its, rv, p, hz⟩ := I.tuple hq
    obtain ⟨u, hu, ru⟩ := rv.get hx
    have hel : e < s.heap.objs.size := Heap.lt_size he
    have hil : it < s.heap.objs.size := by obtain ⟨_, q, _⟩ := hit; exact Heap.lt_size q
    have lt : i < its.toArray.size := by
      have q := (List.getElem?_eq_some_iff.mp hu).1
      rw [List.size_toArray]
      exact q
    refine wpAny_pyNext_enum_itemD (Draws.tuple (A := X.A.in1) (show X.A.in1.handled = none from I.ok.hd hc) it a n2 its.toArray) he ⟨hit, p⟩ lt hne (by simp [hne, Ne.symm n1]) fun y h' tk hy ho hit' hT hsz hk => ?_
    have ey : y = u := by
      have e2 : its.toArray[i]? = some u := by simpa using hu
      rw [e2] at hy
      exact (Option.some.inj hy).symm
    subst ey
    refine ⟨_, rfl, wpAny_letOwnedTupleGo_enum (s := { s with heap := h', toks := tk + 1 }) ho fun h'' he' sb => ?_⟩
    have hT2 : h''.get? s.heap.objs.size = some { cls := .type "tuple", data := .seq #[.int i tk, y] } := (sb.2 _ (Nat.ne_of_gt hel)).trans hT
    have new : ObjOk X.prog X.w (upd H s.heap.objs.size (.tup [.int (i : Nat), x])) h'' s.heap.objs.size (.tup [.int (i : Nat), x]) :=
      ⟨by show 2 ≤ sizeLine; decide, [.int i tk, y], .cons ⟨_, rfl⟩ (.cons ru .nil), ⟨_, hT2, rfl, _, rfl⟩⟩
    have I1 : Inv X pins σ (upd H s.heap.objs.size (.tup [.int (i : Nat), x])) { s with heap := h'', toks := tk + 1 } :=
      I.turnedNew (ch := [e, it]) (fun b ob hb q => (sb.2 b (fun z => hb (by simp [z]))).trans (hk b ob (fun z => hb (by simp [z])) (fun z => hb (by simp [z])) q)) hf (Nat.le_refl _) new
    refine ⟨.ref s.heap.objs.size, _, I1, rfl, ⟨_, x, rfl, I.hok.fresh (Nat.le_refl _), rfl, fun ys hy => by rw [I.tuple_inj hy hq]; exact hx⟩, ⟨⟨y, ?_⟩, ?_, hne, n1, n2⟩, fun b hb => ?_⟩
    · have e1 : ((i + 1 : Nat) : Int) = (i : Int) + 1 := by omega
      rw [e1]; exact he'
    · obtain ⟨⟨o, g1, g2⟩, _⟩ := hit'
      exact ⟨o, (sb.2 it (Ne.symm hne)).trans g1, g2⟩
    · have hb' : b < s.heap.objs.size := by
        have e' : b = e ∨ b = it := by simpa using hb
        rcases e' with z | z <;> rw [z]
        · exact hel
        · exact hil
      rw [upd_ne (Nat.ne_of_lt hb')]
      exact (hf b hb).1
  done := by
    intro X hP hw hK hc i pins s σ H E I hf st hg
    subst hP hw hK
    obtain ⟨⟨old, he⟩, hit, hne, n1, n2⟩ := st
    obtain ⟨xs, hq, hx⟩ := hg
    obtain ⟨its, rv, p, hz⟩ := I.tuple hq
    obtain ⟨f0, f1, f2, f3, f4, f5⟩ := hf it (by simp)
    have hl := rv.length
    have hh : (X.A).in1.handled = none := I.ok.hd hc
    have hn : its.toArray[i]? = none := by simp; omega
    have hT : s.TypeIs (.ref e) "enumerate" := ⟨_, he, rfl⟩
    unfold pyNext
    refine wpAny_bind (wpAny_attempt (wpAny_callSpecial?_slot (name := Str.ofString "__next__") hT F.slot_enumerate_next
      (wpAny_call_entry F.slot_enumerate_next hT F.entry_enumerate_next ?_ (F.args_enumerate_next_1 _))))
    show wpAny _ _ (field (.ref e) 2 >>= _) _ _ _
    refine wpAny_bind (wpAny_field he rfl (x := .ref it) rfl ?_)
    refine wpAny_bind (wpAny_nextOf_tuple_end hh hit p hn fun h' x he' hx' => ?_)
    obtain ⟨o, ho, hc'⟩ := hx'
    refine wpAny_bind (wpAny_isInstance (T := "StopIteration") (b := true) ⟨o, ho, hc'⟩ isSubtype_stop ?_)
    exact wpAny_pure ⟨rfl, I.turned (t' := s.toks) (fun b o hb q => he' b o hb q) f0 f1 f3 f4 f5⟩
  self := fun A i s Q E st h => let ⟨⟨_, he⟩, _⟩ := st; wpAny_pyIter_enum he h
def iEnumT (K : PySem.W.Frag) (ta : TA) : TI := fun σ H R => ta σ H fun vs H1 => ∃ a xs, vs = [.ref a] ∧ SqT K H1 a xs ∧ R (ItT K a) H1
theorem pi_enumT {X : Cx} {e1 : Expr} {ta : TA} {p pos tpos : Pos} {elts : List Expr} {kk : Nat} {K : PySem.W.Frag} (hg : Gl X "enumerate") (hm : X.mg "enumerate" = none) (ha : PA X [e1] ta) (hK : X.K = K) (hs : starEach [e1] X.env = [(false, eval e1 X.env)] := by rfl) :
    PI X (.Tuple elts kk tpos) (.Call (.Name "enumerate" p) [e1] [] pos) (iEnumT K ta) := by
  subst hK
  refine ⟨fun pins s σ H R I h => ?_⟩
  refine Call_ (ld_blt I hg hm boot_enumerate (PyProof.Rows.callWith_type1 (thn (ha.run pos pins s σ H _ I h) fun us s1 ⟨vs, H1, I1, r1, q1⟩ => ?_) hs rfl))
  obtain ⟨a, xs, ex, hq, q⟩ := q1
  subst ex
  cases r1 with
  | cons r rr =>
    cases rr
    cases r
    obtain ⟨its, rv, p', hz⟩ := I1.tuple hq
    have la : a < s1.heap.objs.size := by obtain ⟨_, z, _⟩ := id p'; exact Heap.lt_size z
    refine call_enumT p' fun h' he hit hsz hk => wpAny_pyIter_enum he ?_
    have I2 : Inv X pins σ H1 { s1 with heap := h' } := I1.kept (t' := s1.toks) hk
    refine ⟨s1.heap.objs.size + 1, [s1.heap.objs.size + 1, s1.heap.objs.size], _, _, H1, rfl, I2, turn_enumT a (s1.heap.objs.size + 1) s1.heap.objs.size, ⟨⟨.none, he⟩, hit, Nat.succ_ne_self _, Nat.ne_of_lt (Nat.lt_succ_of_lt la), Nat.ne_of_lt la⟩, fun b hb => ?_, q⟩
    have hle : s1.heap.objs.size ≤ b := by
      have e' : b = s1.heap.objs.size + 1 ∨ b = s1.heap.objs.size := by simpa using hb
      rcases e' with z | z <;> rw [z]
      · exact Nat.le_add_right _ _
      · exact Nat.le_refl _
    exact I1.fpOk hle (I1.hok.fresh hle)
theorem walk_enumT {K : PySem.W.Frag} {a : Addr} {xs : List V} : Walk (ItT K a) xs.length (fun H => SqT K H a xs) (YPair (fun i => some (.int (i : Nat))) (fun i => xs[i]?)) := by
  refine ⟨fun i _ hi q => ⟨xs, xs[i], q, by simp [hi]⟩, fun _ q => ⟨xs, q, Nat.le_refl _⟩, fun i H v H' _ q y => ?_⟩
  obtain ⟨T, x, h1, h2, h3, h4⟩ := y
  exact ⟨T, .int (i : Nat), x, h1, h2, h3, rfl, h4 xs q⟩
section
variable {α : Type} {K : PySem.W.Frag} {r : Rp α} {H H0 : Hp} {a : Addr} {xs : List α} {vs : List V}
theorem wk_enumT [Imm r] (hp : Paired (r H0) xs vs) : Wk (ItT K a) (enumF xs) (fun H => SqT K H a vs) (rP K rI r) H0 := ⟨_, by rw [enumF, List.length_zip, rng_length, Nat.min_self, Paired.length hp]; exact walk_enumT, fun A i H v H' g hi h => by
  obtain ⟨T, x, y, rfl, hn, rfl, ex, ey⟩ := h
  cases ex
  obtain ⟨z, hz, hr⟩ := Paired.get1 hp ey
  have hi' : i < (rng 0 xs.length).length := by
    rw [enumF, List.length_zip] at hi
    exact Nat.lt_of_lt_of_le hi (Nat.min_le_left _ _)
  refine ⟨((i : Nat), z), zip_get (by rw [List.getElem?_eq_getElem hi', rng_get]; congr 1; omega) hz, Gr.new hn, T, .int (i : Nat), y, rfl, SqT.of upd_same, rfl, Imm.mono (g.of0' (Gr.new hn)) hr⟩⟩
def enumAT (K : PySem.W.Frag) (R : It → Hp → Prop) (vs : List V) (H1 : Hp) : Prop := ∃ a xs, vs = [.ref a] ∧ SqT K H1 a xs ∧ R (ItT K a) H1
theorem enum_t {R : It → Hp → Prop} {u : V} {b : Addr} {xs : List V} (e : u = .ref b) (h1 : SqT K H b xs) (h : R (ItT K b) H) : enumAT K R [u] H := ⟨b, xs, by rw [e], h1, h⟩
theorem rd_ienumT {l : TA} {σ : L2.St} {R : It → Hp → Prop} (h : l σ H (enumAT K R)) : iEnumT K l σ H R := h
end
/-! ### a tuple times an int -/
theorem tuple_mul_one (l : Addr) (items : Array Value) (n : Nat) (dd : Option Addr) (sl : Array (Option Value)) (x : Int) (u : Tok) (c0 : (decide (x < -(2 ^ 63)) || decide (x ≥ 2 ^ 63)) = false) (c1 : (items.isEmpty || x == 1) = true) :
    Meets (Builtin.«tuple.__mul__» ⟨[.ref l, .int x u], []⟩) (fun _ R s => s.heap.get? l = some { cls := .type "tuple", dict := dd, data := .seq items n, slots := sl } ∧ R (.ok (.ret (.ref l))) s) :=
  .of_wp fun prog w A R s h => by
    obtain ⟨hp, g, d, tk, os⟩ := s
    obtain ⟨hl, h⟩ := h
    have f1 := AutoSeq1.idx_int
    wp_walk using AutoSeq1.wpAny_loadPart' hl
    repeat (first
      | (refine wpAny_ite_false (decide_eq_false (by rw [c0]; exact Bool.false_ne_true)) ?_; wp_walk using AutoSeq1.wpAny_loadPart' hl)
      | (refine wpAny_ite_true (decide_eq_true c1) ?_; wp_walk using AutoSeq1.wpAny_loadPart' hl))
    exact ⟨_, rfl, h⟩
theorem tuple_mul_none (l : Addr) (items : Array Value) (n : Nat) (dd : Option Addr) (sl : Array (Option Value)) (x : Int) (u : Tok) (c0 : (decide (x < -(2 ^ 63)) || decide (x ≥ 2 ^ 63)) = false) (c1 : (items.isEmpty || x == 1) = false) (c2 : (decide (x ≤ 0) || items.isEmpty) = true) :
    Meets (Builtin.«tuple.__mul__» ⟨[.ref l, .int x u], []⟩) (fun _ R s => s.heap.get? l = some { cls := .type "tuple", dict := dd, data := .seq items n, slots := sl } ∧
      R (.ok (.ret (Value.ref s.heap.objs.size))) { s with heap := s.heap.push { cls := Value.type "tuple", data := Data.seq #[] }, toks := s.toks }) :=
  .of_wp fun prog w A R s h => by
    obtain ⟨hp, g, d, tk, os⟩ := s
    obtain ⟨hl, h⟩ := h
    have f1 := AutoSeq1.idx_int
    wp_walk using AutoSeq1.wpAny_loadPart' hl
    repeat (first
      | (refine wpAny_ite_false (decide_eq_false (by rw [c0]; exact Bool.false_ne_true)) ?_; wp_walk using AutoSeq1.wpAny_loadPart' hl)
      | (refine wpAny_ite_false (decide_eq_false (by rw [c1]; exact Bool.false_ne_true)) ?_; wp_walk using AutoSeq1.wpAny_loadPart' hl)
      | (refine wpAny_ite_true (decide_eq_true c2) ?_; wp_walk using AutoSeq1.wpAny_loadPart' hl))
    exact ⟨_, rfl, h⟩
def repL {α : Type} (xs : List α) (k : Int) : List α := (List.replicate k.toNat xs).flatten
def rRepA (K : PySem.W.Frag) : R2 := fun x y H Q => ∃ l k xs, x = .ref l ∧ y = .int k ∧ SqT K H l xs ∧ xs ≠ [] ∧ -1000 ≤ k ∧ k ≤ 1000 ∧ xs.length ≤ 1000 ∧ (k = 1 → Q (.ref l) H) ∧ (k ≠ 1 → ∀ p, H p = none → Q (.ref p) (upd H p (.tup (repL xs k))))
theorem op_repA {X : Cx} {K : PySem.W.Frag} (hK : X.K = K) : OpR X (binaryOp .Mult) (rRepA K) := by
  subst hK
  intro pins s σ H x y v u Q I rx ry h
  obtain ⟨l, k, xs, rfl, rfl, hT, hne, h0, h1, hz, q1, q2⟩ := h
  by_cases k2 : 2 ≤ k
  · exact op_repT pins s σ H _ _ v u Q I rx ry ⟨l, k, xs, rfl, rfl, hT, hne, k2, h1, hz, q2 (by omega)⟩
  cases rx
  obtain ⟨t, rfl⟩ := ry
  obtain ⟨its, r, ⟨⟨cls, dd, data, sl⟩, ho, hc, n, hd⟩, hs⟩ := I.tuple hT
  obtain rfl : cls = .type "tuple" := hc
  obtain rfl : data = .seq its.toArray n := hd
  have ne : its.toArray.isEmpty = false := by
    cases its with
    | nil => cases r; exact absurd rfl hne
    | cons a b => rfl
  have c0 : (decide (k < -(2 ^ 63)) || decide (k ≥ 2 ^ 63)) = false := by
    rw [decide_eq_false (by omega), decide_eq_false (by omega)] <;> rfl
  refine wpAny_binaryOp_repeat_ref (T := "tuple") (U := "int") (by decide) ⟨_, ho, rfl⟩ (fun s' => typeIs_int s' k t) noFill_tuple_mul F.fills_int_mul F.slot_int_rmul repeat_tuple F.slot_int_index.lookup
    (call_meets F.slot_int_rmul (typeIs_int s k t) F.entry_int_rmul (F.args_int_rmul_2 _ _) (int_rmul_tuple k t l its.toArray n dd sl) ⟨ho, rfl, ⟨_, ho, rfl⟩, ?_⟩)
  by_cases e1 : k = 1
  · refine call_meets F.slot_tuple_mul ⟨_, ho, rfl⟩ F.entry_tuple_mul (F.args_tuple_mul_2 _ _) (tuple_mul_one l its.toArray n dd sl k t c0 (by rw [e1, ne]; rfl)) ⟨ho, ?_⟩
    exact ⟨.ref l, H, I, rfl, q1 e1⟩
  · refine call_meets F.slot_tuple_mul ⟨_, ho, rfl⟩ F.entry_tuple_mul (F.args_tuple_mul_2 _ _) (tuple_mul_none l its.toArray n dd sl k t c0 (by rw [ne, Bool.false_or]; exact beq_eq_false_iff_ne.mpr e1) (by rw [decide_eq_true (show k ≤ 0 by omega)]; rfl)) ⟨ho, ?_⟩
    have z : repL xs k = [] := by
      unfold repL
      rw [show k.toNat = 0 by omega]
      rfl
    have q := q2 e1
    rw [z] at q
    refine ⟨.ref s.heap.objs.size, _, I.laid (t' := s.toks) (o := .tup []) (fun b ob q => Heap.get?_push_of_some _ q) (Nat.le_refl _) ?_, rfl, q _ (I.hok.fresh (Nat.le_refl _))⟩
    exact ⟨by show 0 ≤ sizeLine; omega, [], .nil, IsTup.new _ _⟩
/-! ### readings -/
section
variable {α : Type} {K : PySem.W.Frag} {X : Cx} {r : Rp α} {H : Hp} {a b : Addr} {xs ys : List α} {v w : V} {Q : VK} {σ : L2.St} {E : Er → Prop}
theorem catAK (e : X.K = K) : OpR X (binaryOp .Add) (rCatA K) := e ▸ op_catA
theorem sl_tupAK (e : X.K = K) : SlR X (rSlA K) := e ▸ sl_tupA
theorem Paired.nil_l {q : α → V → Prop} {vs : List V} (h : Paired q xs vs) : vs = [] ↔ xs = [] := by
  cases h with
  | nil => simp
  | cons _ _ => simp
theorem cat_TA [Imm r] (hx : rT K r H xs v) (hy : rT K r H ys w) (l : lenOk (xs ++ ys)) (q : ∀ v H', Gr [] H H' → rT K r H' (xs ++ ys) v → Q v H') : rCatA K v w H Q := by
  obtain ⟨a, rfl, vs, h1, h2⟩ := hx
  obtain ⟨b, rfl, ws, h3, h4⟩ := hy
  refine ⟨a, b, vs, ws, rfl, rfl, h1, h3, ?_, fun e => ?_, fun _ e => ?_, fun _ _ p n => ?_⟩
  · have l' : (xs ++ ys).length ≤ sizeLine := l
    rw [List.length_append, Paired.length h2, Paired.length h4] at l'
    exact l'
  · have z : xs = [] := (Paired.nil_l h2).mp e
    subst z
    exact q _ _ (Gr.refl H) ⟨b, rfl, ws, h3, h4⟩
  · have z : ys = [] := (Paired.nil_l h4).mp e
    subst z
    exact q _ _ (Gr.refl H) ⟨a, rfl, vs, h1, by rw [List.append_nil]; exact h2⟩
  · exact q _ _ (Gr.new n) ⟨p, rfl, _, SqT.of upd_same, Paired.app (Paired.imm (Gr.new (A := []) n) h2) (Paired.imm (Gr.new (A := []) n) h4)⟩
theorem Paired.takeD {q : α → V → Prop} {vs : List V} (h : Paired q xs vs) : ∀ i j : Nat, Paired q ((xs.drop i).take j) ((vs.drop i).take j) := by
  induction h with
  | nil => intro i j; simp; exact .nil
  | cons h t ih =>
    rename_i x u xs us
    intro i j
    cases i with
    | succ i => exact ih i j
    | zero =>
      cases j with
      | zero => exact .nil
      | succ j => exact .cons h (by simpa using ih 0 j)
theorem cut_TA [Imm r] {lo hi : Option Int} (h : rT K r H xs v) (q : ∀ v H', Gr [] H H' → rT K r H' (cutT xs lo hi) v → Q v H') : rSlA K v lo hi H Q := by
  obtain ⟨a, rfl, vs, h1, h2⟩ := h
  refine ⟨a, vs, rfl, h1, fun e => ?_, fun _ p n => ?_⟩
  · have z : cutT xs lo hi = xs := by
      unfold cutT
      rw [Paired.length h2, e.1, e.2, List.drop_zero, Nat.sub_zero, ← Paired.length h2, List.take_length]
    exact q _ _ (Gr.refl H) ⟨a, rfl, vs, h1, by rw [z]; exact h2⟩
  · refine q _ _ (Gr.new n) ⟨p, rfl, _, SqT.of upd_same, Paired.imm (Gr.new (A := []) n) ?_⟩
    unfold cutT cutV
    rw [Paired.length h2]
    exact Paired.takeD h2 _ _
theorem tup_of_T (h : rT K r H xs v) (q : Q v H) : ap3 (fun vs H Q => ∃ p ys, vs = [V.ref p] ∧ ((SqL K H p ys ∧ ∀ l, H l = none → Q (.ref l) (upd H l (.tup ys))) ∨ (SqT K H p ys ∧ Q (.ref p) H))) [v] H Q := by
  obtain ⟨a, rfl, vs, h1, _⟩ := h
  exact ⟨a, vs, rfl, .inr ⟨h1, q⟩⟩
/-- how often a tuple, a list may be repeated -/
def repOk {α : Type} (xs : List α) (k : Int) : Prop := -1000 ≤ k ∧ k ≤ 1000 ∧ xs.length ≤ 1000 ∧ xs.length * k.toNat ≤ 1000000
instance (xs : List α) (k : Int) : Decidable (repOk xs k) := inferInstanceAs (Decidable (_ ∧ _))
theorem Paired.rep {q : α → V → Prop} {vs : List V} (h : Paired q xs vs) : ∀ n : Nat, Paired q (List.replicate n xs).flatten (List.replicate n vs).flatten
  | 0 => .nil
  | n + 1 => by
    rw [List.replicate_succ, List.replicate_succ, List.flatten_cons, List.flatten_cons]
    exact Paired.app h (Paired.rep h n)
theorem rep_T [Imm r] {k : Int} (h : rT K r H xs v) (n1 : xs.isEmpty = false) (c : repOk xs k) (q : ∀ v H', Gr [] H H' → rT K r H' (repL xs k) v → Q v H') : rRepA K v (.int k) H Q := by
  obtain ⟨a, rfl, vs, h1, h2⟩ := h
  refine ⟨a, k, vs, rfl, rfl, h1, fun e => ?_, c.1, c.2.1, by rw [← Paired.length h2]; exact c.2.2.1, fun e => ?_, fun _ p n => ?_⟩
  · rw [(Paired.nil_l h2).mp e] at n1
    cases n1
  · subst e
    have z : repL xs 1 = xs := by
      unfold repL
      simp
    exact q _ _ (Gr.refl H) ⟨a, rfl, vs, h1, by rw [z]; exact h2⟩
  · exact q _ _ (Gr.new n) ⟨p, rfl, _, SqT.of upd_same, Paired.imm (Gr.new (A := []) n) (Paired.rep h2 _)⟩
theorem rep_L [Imm r] {k : Int} (h : Ls r H a xs) (c : repOk xs k) (q : ∀ p H', H p = none → Gr [] H H' → Ls r H' p (repL xs k) → Q (.ref p) H') : rRep (.ref a) (.int k) H Q := by
  obtain ⟨vs, h1, h2⟩ := h
  refine ⟨a, k, vs, rfl, rfl, h1, by have := c.1; omega, by have := c.2.1; omega, ?_, fun p n => q _ _ n (Gr.new n) ⟨_, upd_same, Paired.imm (Gr.new (A := []) n) (Paired.rep h2 _)⟩⟩
  rw [← Paired.length h2]
  exact Nat.le_trans c.2.2.2 (by decide)
def pmax (i j : Int) : Int := if j > i then j else i
theorem rd_max {i j : Int} (q : Q (.int (pmax i j)) H) : ap3 (fun xs H Q => ∃ i j, xs = [.int i, .int j] ∧ Q (.int (if j > i then j else i)) H) [.int i, .int j] H Q := ⟨i, j, rfl, q⟩
/-! ### the truth of a list, of a tuple -/
def tTru (K : PySem.W.Frag) (ta : TE) : TT := fun σ H Q => ta σ H fun x H' => ∃ k, TruV K x H' k ∧ Q k H'
theorem pt_tru {e1 : Expr} {ta : TE} (ha : PE X e1 ta) (e : X.K = K) (he : ∀ whole, isTrue e1 X.env whole = (do let v ← whole; standAt e1.pos; holding [v] (truthy v)) := by intro _; rfl) : PT X e1 (tTru K ta) := by
  subst e
  exact pt_truth ha he
def truA (K : PySem.W.Frag) (Q : Bool → Hp → Prop) (x : V) (H' : Hp) : Prop := ∃ k, TruV K x H' k ∧ Q k H'
theorem rd_Tru {ta : TE} {Q : Bool → Hp → Prop} (h : ta σ H (truA K Q)) : tTru K ta σ H Q := h
theorem tru_T {Q : Bool → Hp → Prop} (h : rT K r H xs v) (q : Q (!xs.isEmpty) H) : truA K Q v H := by
  obtain ⟨a, rfl, vs, h1, h2⟩ := h
  refine ⟨_, .inr (.inl ⟨vs, h1, rfl⟩), ?_⟩
  have e : vs.isEmpty = xs.isEmpty := by cases h2 <;> rfl
  rw [e]
  exact q
theorem tru_L {Q : Bool → Hp → Prop} (h : Lq K r H a xs) (q : Q (!xs.isEmpty) H) : truA K Q (.ref a) H := by
  obtain ⟨vs, h1, h2⟩ := h
  refine ⟨_, .inl ⟨vs, h1, rfl⟩, ?_⟩
  have e : vs.isEmpty = xs.isEmpty := by cases h2 <;> rfl
  rw [e]
  exact q
/-! ### reversed(range(n)) -/
def revA (R : It → Hp → Prop) (x : V) (H1 : Hp) : Prop := ∃ n, x = .int n ∧ (-(2 ^ 62) ≤ (0 : Int) ∧ (0 : Int) < 2 ^ 62 ∧ -(2 ^ 62) ≤ n ∧ n < 2 ^ 62 ∧ R (Itc ((0 : Int) + (((n - 0).toNat : Nat) : Int) - 1) (-1) (n - 0).toNat) H1)
theorem rd_rev {n : Int} {R : It → Hp → Prop} (c : rgOk n) (h : R (Itc ((n.toNat : Int) - 1) (-1) n.toNat) H) : revA R (.int n) H := by
  have c1 := c.1
  have c2 := c.2
  refine ⟨n, rfl, by decide, by decide, by omega, by omega, ?_⟩
  rw [show (0 : Int) + (((n - 0).toNat : Nat) : Int) - 1 = (n.toNat : Int) - 1 by omega, show n - 0 = n by omega]
  exact h
theorem rd_irev {l : TE} {R : It → Hp → Prop} (h : l σ H (revA R)) : iRevR (tRg1 l) σ H R := h
/-! ### frozen lists -/
theorem len_Z (h : rZ r H xs v) (q : Q (.int xs.length) H) : ap3 (fun vs H Q => ∃ p ys, vs = [V.ref p] ∧ (SqL K H p ys ∨ SqT K H p ys) ∧ Q (.int ys.length) H) [v] H Q := by
  obtain ⟨a, rfl, hq⟩ := rZ_q (K := K) h
  exact len_L hq q
theorem tup_of_Z [Imm r] (h : rZ r H xs v) (q : ∀ v H', Gr [] H H' → rT K r H' xs v → Q v H') : ap3 (fun vs H Q => ∃ p ys, vs = [V.ref p] ∧ ((SqL K H p ys ∧ ∀ l, H l = none → Q (.ref l) (upd H l (.tup ys))) ∨ (SqT K H p ys ∧ Q (.ref p) H))) [v] H Q := by
  obtain ⟨a, rfl, hq⟩ := rZ_q (K := K) h
  exact tup_of_L hq q
theorem lst_of_Z [Imm r] (h : rZ r H xs v) (q : ∀ p H', H p = none → Gr [] H H' → Ls r H' p xs → Q (.ref p) H') : ap3 (fun vs H Q => ∃ p ys, vs = [V.ref p] ∧ (SqL K H p ys ∨ SqT K H p ys) ∧ ∀ l, H l = none → Q (.ref l) (upd H l (.lst ys))) [v] H Q := by
  obtain ⟨a, rfl, hq⟩ := rZ_q (K := K) h
  exact lst_of_L hq q
/-! ### a list of three taken apart -/
def un3 {α : Type} : List α → R (α × α × α)
  | [a, b, c] => .ok (a, b, c)
  | _ => .out
def un2 {α : Type} : List α → R (α × α)
  | [a, b] => .ok (a, b)
  | _ => .out
def un3A (K : PySem.W.Frag) (P : List V → Prop) (v : V) (H : Hp) : Prop := ∃ b vs, v = .ref b ∧ SqL K H b vs ∧ vs.length = 3 ∧ P vs
theorem rd_glE {t : TGs} {n : Nat} {Q : L2.St → Hp → Prop} (h : un3A K (fun vs => t vs σ H Q) v H) (e : n = 3) : gLst K n t v σ H Q := by
  subst e
  exact h
theorem un3_L {Z : α × α × α → Prop} {P : List V → Prop} (h : Lq K r H a xs) (hm : wp (un3 xs) Z E) (q : ∀ p x y z, r H p.1 x → r H p.2.1 y → r H p.2.2 z → Z p → P [x, y, z]) : un3A K P (.ref a) H := by
  obtain ⟨vs, h1, h2⟩ := h
  match xs, hm with
  | [x1, x2, x3], hm =>
    cases h2 with
    | cons g1 t1 => cases t1 with
      | cons g2 t2 => cases t2 with
        | cons g3 t3 => cases t3; exact ⟨a, _, rfl, h1, rfl, q _ _ _ _ g1 g2 g3 hm⟩
end
/-- an answer that is there -/
def unO {α : Type} : Option α → R α
  | some x => .ok x
  | none => .out
theorem unO_I {H : Hp} {o : Option Int} {v : V} {Z : Int → Prop} {E : Er → Prop} (h : rO rI H o v) (hm : wp (unO o) Z E) : ∃ x, v = .int x ∧ Z x := by
  cases o with
  | none => exact hm.elim
  | some x => exact ⟨x, h.2, hm⟩
end Mir
set_option Elab.async false
set_option linter.all false
set_option maxRecDepth 100000
namespace Mir
open PySem PySem.Spec PyProof.Rows L2
variable [Nm]
/-! ### objects of own classes -/
section
variable {H H' H0 : Hp} {a C dx p : Addr} {fs : List (Str × V)} {f : Str} {y : V} {A : List Addr}
theorem kd_ins : kd (.ins C dx fs) ≠ 9 := by
  show (match fs.getLast? with
    | some (f, _) => if Nm.last f then 0 else 5
    | none => 5) ≠ 9
  cases fs.getLast? with
  | none => show 5 ≠ 9; decide
  | some q =>
    obtain ⟨f, v⟩ := q
    show (if Nm.last f then 0 else 5) ≠ 9
    split <;> decide
/-- an object at hand: no list stands where it stands -/
theorem ins_ne {α : Type} {r : Rp α} {b : Addr} {xs : List α} (h : H a = some (.ins C dx fs)) (l : Ls r H b xs) : a ≠ b := fun e => by
  obtain ⟨vs, h1, _⟩ := l
  rw [← e, h] at h1
  cases h1
theorem ins_g0 (g : Gr [] H H') (h : H a = some (.ins C dx fs)) : H' a = some (.ins C dx fs) := g.to h (fun m => absurd m (by simp)) kd_ins
theorem ins_gA (g : Gr A H H') (n : a ∉ A) (h : H a = some (.ins C dx fs)) : H' a = some (.ins C dx fs) := g.to h (fun m => absurd m n) kd_ins
theorem ins_fz {b : Addr} (g : Fz b H H') (n : a ≠ b) (h : H a = some (.ins C dx fs)) : H' a = some (.ins C dx fs) := g.ne _ _ n h
/-- a new object's heap -/
theorem gr_make (n1 : H a = none) (n2 : H dx = none) (n3 : dx ≠ a) : Gr [] H (upd (upd H dx (.own a)) a (.ins C dx [])) := (Gr.new n2).trans (Gr.new (by rw [upd_ne (Ne.symm n3)]; exact n1))
/-- o.f = y: the form that a printed text uses -/
def sfA (K : PySem.W.Frag) (f : Str) (y : V) (N : Hp → Prop) (x : V) (H2 : Hp) : Prop := ∃ a C dx fs, x = .ref a ∧ H2 a = some (.ins C dx fs) ∧ Cls K C ∧ NoAttr K C f ∧ fs.length < 1000 ∧ N (upd H2 a (.ins C dx (putF f y fs)))
theorem rd_sfld {K : PySem.W.Frag} {ta tv : TE} {D : Ends} {σ : L2.St} (h : tv σ H fun y H1 => ta σ H1 (sfA K f y (D.nx σ))) : sFld K ta tv f D σ H := h
theorem set_fld {K : PySem.W.Frag} {N : Hp → Prop} (h : H a = some (.ins C dx fs)) (k : kd (.ins C dx fs) ≠ 0) (c : Cls K C) (n : NoAttr K C f) (l : fs.length < 1000) (q : ∀ H', Fz a H H' → H' a = some (.ins C dx (putF f y fs)) → N H') : sfA K f y N (.ref a) H :=
  ⟨a, C, dx, fs, rfl, h, c, n, l, q _ ⟨fun b w e z => by
    by_cases q : b = a
    · subst q
      rw [h] at e
      cases e
      exact absurd z k
    · rw [upd_ne q]
      exact e, fun b o n e => by rw [upd_ne n]; exact e, by rw [upd_same]; intro z; cases z⟩ upd_same⟩
/-- o.f -/
def fldA (K : PySem.W.Frag) (f : Str) (Q : VK) (x : V) (H1 : Hp) : Prop := ∃ a C dx fs v, x = .ref a ∧ H1 a = some (.ins C dx fs) ∧ Cls K C ∧ NoAttr K C f ∧ fs.lookup f = some v ∧ Q v H1
theorem rd_fld {K : PySem.W.Frag} {ta : TE} {σ : L2.St} {Q : VK} (h : ta σ H (fldA K f Q)) : tFld K ta f σ H Q := h
theorem get_fld {K : PySem.W.Frag} {Q : VK} {v : V} (h : H a = some (.ins C dx fs)) (c : Cls K C) (n : NoAttr K C f) (l : fs.lookup f = some v) (q : Q v H) : fldA K f Q (.ref a) H := ⟨a, C, dx, fs, v, rfl, h, c, n, l, q⟩
/-- o.m(..) -/
def methA (C : Addr) (m : Str) (N : V → Hp → Prop) (x : V) (H1 : Hp) : Prop := ∃ a dx fs, x = .ref a ∧ H1 a = some (.ins C dx fs) ∧ fs.lookup m = none ∧ N x H1
def tMethS (C : Addr) (m : Str) (sp : Sp) (E : L2.St → XK) (ta : TE) (t : TA) : TE := fun σ H Q => ta σ H (methA C m fun x H1 => t σ H1 fun vs H2 => sp (x :: vs) H2 Q (E σ))
theorem rd_meth {m : Str} {sp : Sp} {E : L2.St → XK} {ta : TE} {t : TA} {σ : L2.St} {Q : VK} (h : ta σ H (methA C m fun x H1 => t σ H1 fun vs H2 => sp (x :: vs) H2 Q (E σ))) : tMethS C m sp E ta t σ H Q := h
theorem on_meth {m : Str} {N : V → Hp → Prop} (h : H a = some (.ins C dx fs)) (l : fs.lookup m = none) (q : N (.ref a) H) : methA C m N (.ref a) H := ⟨a, dx, fs, rfl, h, l, q⟩
end
section
variable {X : Cx} {CX : CXT} {k : Nat} {f C : Addr} {fd : FuncData} {ps : List Str} {sp : Sp} {E : L2.St → XK} {x m : Str} {p pos apos : Pos} {e o : Expr} {es : List Expr} {ta : TE} {t : TA}
theorem pe_methS {pl : Sem Bool} (he : PE X o ta) (c : Cls X.K C) (hm : Meth X.K C m f) (F : FnOk X.prog X.w X.K X.mg X.base CX k f fd ps sp) (hr : Room k X.A) (hb : Binds X.K fd ps []) (hx : ∀ σ, PassesAt CX X σ (E σ)) (ha : PA X (e :: es) t)
    (hst : starEach (e :: es) X.env = (false, eval e X.env) :: starEach es X.env := by rfl) (hpl : (backTo pos (starEach es X.env)).any (·.1) = false := by rfl)
    (ht : eval (.Call (.Attribute o m apos) (e :: es) [] pos) X.env = (do
      let ov ← eval o X.env
      standAt apos.atName
      let (f, first) ← holding [ov] (getMethod ov m pl)
      callWith pos f first (backTo pos (starEach (e :: es) X.env)) (backToKw pos (keywordEach [] X.env))) := by rfl) :
    PE X (.Call (.Attribute o m apos) (e :: es) [] pos) (tMethS C m sp E ta t) := by
  refine ⟨fun pins s σ H Q I h => ?_⟩
  refine PySem.W.methodCall_KW (pl := pl) (thn (he.run pins s σ H _ I h) fun u s1 hh => ?_) ht
  obtain ⟨x, H1, I1, rx, a, dx, fs, ex, ea, l, q⟩ := hh
  subst ex
  obtain rfl : u = Value.ref a := rx
  refine getmeth_ok I1 ea c hm l ?_
  refine PySem.W.callWith_K (first := [.ref a]) (h₀ := X.base) I.ok.mod.kin hm.kp (thn (ha.run pos pins s1 σ H1 _ I1 q) fun us s2 hh => ?_) hst hpl
  obtain ⟨vs, H2, I2, r, q2⟩ := hh
  exact ⟨I2.kIn, run_fnS (us := .ref a :: us) (vs := .ref a :: vs) F hr hb (hx σ) I2 (.cons rfl r) q2⟩
theorem pe_methS0 {pl : Sem Bool} (he : PE X o ta) (c : Cls X.K C) (hm : Meth X.K C m f) (F : FnOk X.prog X.w X.K X.mg X.base CX k f fd ps sp) (hr : Room k X.A) (hb : Binds X.K fd ps []) (hx : ∀ σ, PassesAt CX X σ (E σ))
    (ht : eval (.Call (.Attribute o m apos) [] [] pos) X.env = (do
      let ov ← eval o X.env
      standAt apos.atName
      let (f, first) ← holding [ov] (getMethod ov m pl)
      callWith pos f first (backTo pos (starEach [] X.env)) (backToKw pos (keywordEach [] X.env))) := by rfl) :
    PE X (.Call (.Attribute o m apos) [] [] pos) (tMethS C m sp E ta tNil) := by
  refine ⟨fun pins s σ H Q I h => ?_⟩
  refine PySem.W.methodCall_KW (pl := pl) (thn (he.run pins s σ H _ I h) fun u s1 hh => ?_) ht
  obtain ⟨x, H1, I1, rx, a, dx, fs, ex, ea, l, q⟩ := hh
  subst ex
  obtain rfl : u = Value.ref a := rx
  refine getmeth_ok I1 ea c hm l ?_
  exact PySem.W.callWith_K0 (first := [.ref a]) I1.kIn hm.kp (run_fnS (us := [.ref a]) (vs := [.ref a]) F hr hb (hx σ) I1 (.cons rfl .nil) q)
/-- C(..): what is made may let errors out -/
def tMakeS (C : Addr) (sp : Sp) (E : L2.St → XK) (t : TA) : TE := fun σ H Q => t σ H fun vs H1 => ∀ x dx, H1 x = none → H1 dx = none → dx ≠ x → sp (.ref x :: vs) (upd (upd H1 dx (.own x)) x (.ins C dx [])) (fun v H2 => v = .non ∧ Q (.ref x) H2) (E σ)
theorem rd_make {σ : L2.St} {H : Hp} {Q : VK} (h : t σ H fun vs H1 => ∀ x dx, H1 x = none → H1 dx = none → dx ≠ x → sp (.ref x :: vs) (upd (upd H1 dx (.own x)) x (.ins C dx [])) (fun v H2 => v = .non ∧ Q (.ref x) H2) (E σ)) : tMakeS C sp E t σ H Q := h
/-- an error out of __init__ reaches what is wanted of it: told of the heap behind the object's making -/
def Makes (CX : CXT) (X : Cx) (E : L2.St → XK) : Prop := ∀ (σ : L2.St), PassesAt CX X σ (E σ)
theorem pe_makeS (M : Mk X.K C f) (F : FnOk X.prog X.w X.K X.mg X.base CX k f fd ps sp) (hr : Room (k + 1) X.A) (hg : Gl X x) (hm : X.mg x = some (.ref C)) (hb : Binds X.K fd ps []) (hx : ∀ σ, PassesAt CX X σ (E σ))
    (ha : PA X (e :: es) t) (hdb : (x == ("__debug__" : Str)) = false := by decide) (he : starEach (e :: es) X.env = (false, eval e X.env) :: starEach es X.env := by rfl) (hpl : (backTo pos (starEach es X.env)).any (·.1) = false := by rfl) :
    PE X (.Call (.Name x p) (e :: es) [] pos) (tMakeS C sp E t) := by
  refine ⟨fun pins s σ H Q I h => ?_⟩
  refine wpAny_Call_Name_kw (ld_glob I hg hm ?_ hdb)
  refine PySem.W.callWith_K (h₀ := X.base) I.ok.mod.kin M.kp (thn (ha.run pos pins s σ H _ I h) fun us s1 hh => ?_) he hpl
  obtain ⟨vs, H1, I1, r, q⟩ := hh
  refine ⟨I1.kIn, ?_⟩
  have hq := q (s1.heap.objs.size + 1) s1.heap.objs.size (I1.hok.fresh (Nat.le_succ _)) (I1.hok.fresh (Nat.le_refl _)) (Nat.ne_of_lt (Nat.lt_succ_self _))
  have I2 := Inv.made (C := C) I1
  have r2 : Vals (V.ref (s1.heap.objs.size + 1) :: vs) (Value.ref (s1.heap.objs.size + 1) :: us) := .cons rfl r
  have hl : (Value.ref (s1.heap.objs.size + 1) :: us).length = ps.length := by
    have e := r2.length
    rw [F.len _ _ _ _ hq] at e
    exact e.symm
  have b := hb _ (Value.ref (s1.heap.objs.size + 1) :: us) I2.kIn (by rw [List.append_nil]; exact hl)
  rw [List.append_nil] at b
  refine wpAny_call (make_map (f := f) I1.kIn M.makes M.init (beq_iff_eq.mp M.fn) (codeAny_mono (F.run _ X.stack _ _ ⟨Value.ref (s1.heap.objs.size + 1) :: us, []⟩ (Value.ref (s1.heap.objs.size + 1) :: us) _ _ (E σ) (hr.make C us [])
    (I2.env0.make C us []) b r2 hq) fun r s' hq' => ?_))
  cases r with
  | error e => exact hx σ pins _ _ e s' I2 hq'
  | ok fl =>
    cases fl with
    | ret u =>
      obtain ⟨v, H', I3, rv, ev, q3⟩ := I2.after hq'
      subst ev
      exact ⟨rv, ⟨V.ref (s1.heap.objs.size + 1), H', I3, rfl, q3⟩⟩
    | next => exact False.elim hq'
    | brk => exact False.elim hq'
    | cont => exact False.elim hq'
end
/-! ### what is called of a class -/
def CalM (P : Program) (w : World) (K : PySem.W.Frag) (mg : Str → Option Value) (base : Heap) (CX : CXT) (k : Nat) (C : Addr) (m : Str) (ps : List Str) (sp : Sp) : Prop :=
  ∃ (f : Addr) (fd : FuncData), FnOk P w K mg base CX k f fd ps sp ∧ Meth K C m f ∧ Binds K fd ps []
def CalI (P : Program) (w : World) (K : PySem.W.Frag) (mg : Str → Option Value) (base : Heap) (CX : CXT) (k : Nat) (C : Addr) (x : Str) (ps : List Str) (sp : Sp) : Prop :=
  ∃ (f : Addr) (fd : FuncData), FnOk P w K mg base CX k f fd ps sp ∧ Mk K C f ∧ mg x = some (.ref C) ∧ Binds K fd ps []
/-- a def with defaults, all its arguments given -/
theorem FunD.all {K : PySem.W.Frag} {x qual : Str} {params : Arguments} {body : List Stmt} {scope : Scope} {dvs : List V} {f : Addr} {fd : FuncData} {ps : List Str} (F : FunD K x qual params body scope dvs [] f fd) (hd : dvs ≠ [])
    (h : ∀ (T : Addr) (kV doc pm : Value) (an : Option Addr) (cdv ct : Value) (us its : List Value), us.length = ps.length → its.length = dvs.length →
      ∃ k, bindArgs (PySem.W.fnOf x qual params body scope (.ref T) kV doc pm an cdv ct) ⟨us, []⟩ = seqItems? (.ref T) >>= k ∧ k (some its.toArray) = pure (ps.zip (us ++ its.drop dvs.length))) : Binds K fd ps [] := by
  obtain ⟨ds, r, b⟩ := F.binds1 ps.length dvs.length hd (by omega) h
  rw [List.drop_length] at r
  cases r
  exact b
theorem FunD.ok0 {P : Program} {w : World} {K : PySem.W.Frag} {mg : Str → Option Value} {base : Heap} {x qual : Str} {params : Arguments} {body : List Stmt} {scope : Scope} {dvs : List V} {kws : List (Str × V)} {f : Addr} {fd : FuncData} {N ps : List Str} {k : Nat} {sp : Sp} (F : FunD K x qual params body scope dvs kws f fd) (S : FnScope N ps scope) (len : ∀ vs H Q E, sp vs H Q E → vs.length = ps.length)
    (hbody : ∀ (cdv : Value) (A : Around) (outer : List Env) (s : Shared) (H : Hp) (vs : List V) (Q : VK) (E : XK), Room k (A.deeper (envOfC qual scope s.heap.objs.size f cdv)) → sp vs H Q E →
      ∃ t, PSs (cxOf CX0 P w K mg base N qual scope f cdv A outer s H E).nox body t ∧ t { nx := fun _ H' => Q .non H', rt := Q } (start N vs) H) : FnOk P w K mg base CX0 (k + 1) f fd ps sp :=
  F.ok S len fun cdv A outer s H vs Q E hr h => let ⟨t, p, q⟩ := hbody cdv A outer s H vs Q E hr h; ⟨t, p.nox, q⟩
theorem passLS {X : Cx} : ∀ σ, PassesAt (L2.CX X.prog X.w) X σ ((fun _ => E0) σ) := fun _ _ _ _ _ _ _ h => by
  obtain ⟨_, _, _, _, _, _, _, _, _, _, _, _, z⟩ := h
  exact z.elim
/-! ### isinstance with several classes, all, sum -/
section
variable {K : PySem.W.Frag} {X : Cx} {H : Hp} {Q : VK} {a : Addr} {x v : V} {α : Type} {r : Rp α} {xs : List α}
theorem isiTK (e : X.K = K) : CallR X (.builtin "isinstance") (rIsiT K) := e ▸ call_isiT
theorem isi_2 {S T1 T2 : String} {p : Addr} {b1 b2 : Bool} (hp : H p = some (.tup [.ty T1, .ty T2])) (hx : TyX K H x (.type S)) (e1 : kitB S T1 = some b1) (e2 : kitB S T2 = some b2) (q : Q (.bl (b1 || b2)) H) : ap3 (rIsiT K) [x, .ref p] H Q := by
  refine ⟨x, p, [.ty T1, .ty T2], .type S, [.type T1, .type T2], b1 || b2, rfl, hp, .cons (.ty T1) (.cons (.ty T2) .nil), hx, ?_, q⟩
  cases b1 with
  | true => exact ka_hit (kit_ty e1)
  | false =>
    cases b2 with
    | true => exact ka_cons (kit_ty e1) (ka_hit (kit_ty e2))
    | false => exact ka_cons (kit_ty e1) (ka_cons (kit_ty e2) ka_nil)
theorem allK (hc : X.calm = true) (e : X.K = K) : CallR X (.builtin "all") (rAll K) := e ▸ cr_all hc
theorem sumK (hc : X.calm = true) (e : X.K = K) : CallR X (.builtin "sum") (rSum K) := e ▸ cr_sum hc
theorem bools_of : ∀ {bs : List Bool} {vs : List V}, Paired (rB H) bs vs → vs = bs.map V.bl
  | _, _, .nil => rfl
  | _, _, .cons h t => by rw [bools_of t, show _ = V.bl _ from h]; rfl
theorem all_L {bs : List Bool} (h : Lq K rB H a bs) (q : Q (.bl (bs.all id)) H) : ap3 (rAll K) [.ref a] H Q := by
  obtain ⟨vs, h1, h2⟩ := h
  have e := bools_of h2
  subst e
  exact ⟨a, bs, rfl, h1, q⟩
theorem sum_L {ns : List Int} (h : Lq K rI H a ns) (q : Q (.int ns.sum) H) : ap3 (rSum K) [.ref a] H Q := by
  obtain ⟨vs, h1, h2⟩ := h
  have e := ints_of h2
  subst e
  exact ⟨a, ns, rfl, h1, q⟩
end
end Mir
set_option Elab.async false
set_option linter.all false
set_option maxRecDepth 100000
namespace Mir
open PySem PySem.Spec PyProof.Rows L2
variable [Nm]
/-! ### zip of a tuple and a list -/
def ItTL (K : PySem.W.Frag) (a b : Addr) : It :=
  ⟨fun i H => ∃ (xs ys : List V) (x y : V), SqT K H a xs ∧ SqL K H b ys ∧ xs[i]? = some x ∧ ys[i]? = some y,
    fun i H v H' => ∃ T x y, v = .ref T ∧ H T = none ∧ H' = upd H T (.tup [x, y]) ∧ (∀ xs, SqT K H a xs → xs[i]? = some x) ∧ ∀ ys, SqL K H b ys → ys[i]? = some y,
    fun i H => ∃ xs ys : List V, SqT K H a xs ∧ SqL K H b ys ∧ i ≤ xs.length ∧ i ≤ ys.length ∧ (i = xs.length ∨ i = ys.length)⟩
theorem turn_zipTL {P : Program} {w : World} {K : PySem.W.Frag} {elts : List Expr} {kk : Nat} {tpos : Pos} {a b z TI TO i1 i2 : Addr} (S : ZipSep2 z TI TO i1 i2 [i1, a] [i2, b]) :
    Turn P w K (.Tuple elts kk tpos) (ItTL K a b) [z, TI, TO, i1, i2] z (fun i h => IsZip h z TI TO .none ∧ IsTupOf2 h TI (.ref i1) (.ref i2) ∧ (∃ x y, IsTupOf2 h TO x y) ∧ h.IsTupleIter i1 a i ∧ h.IsListIter i2 b i) where
  mem := by simp
  obj := fun i h st c hc => by
    obtain ⟨s1, s2, ⟨x, y, s3⟩, ⟨o1, e1, _, d1⟩, ⟨o2, e2, _, d2⟩⟩ := st
    have q : c = z ∨ c = TI ∨ c = TO ∨ c = i1 ∨ c = i2 := by simpa using hc
    rcases q with rfl | rfl | rfl | rfl | rfl
    · exact ⟨_, s1, nofun⟩
    · exact ⟨_, s2, nofun⟩
    · exact ⟨_, s3, nofun⟩
    · exact ⟨o1, e1, fun v q => by rw [d1] at q; cases q⟩
    · exact ⟨o2, e2, fun v q => by rw [d2] at q; cases q⟩
  keep := fun i h h' st k => by
    obtain ⟨s1, s2, ⟨x, y, s3⟩, ⟨o1, e1, r1⟩, ⟨o2, e2, r2⟩⟩ := st
    exact ⟨k z (by simp) _ s1, k TI (by simp) _ s2, ⟨x, y, k TO (by simp) _ s3⟩, ⟨o1, k i1 (by simp) _ e1, r1⟩, ⟨o2, k i2 (by simp) _ e2, r2⟩⟩
  item := by
    intro X hP hw hK hc i pins s σ H E I fresh st go
    subst hP hw hK
    obtain ⟨s1, s2, ⟨x0, y0, s3⟩, s4, s5⟩ := st
    obtain ⟨xs, ys, x, y, qa, qb, gx, gy⟩ := go
    obtain ⟨us, rv, p1, _⟩ := I.tuple qa
    obtain ⟨ws, rw', p2, _⟩ := I.list qb
    obtain ⟨u, hu, ru⟩ := rv.get gx
    obtain ⟨t, ht, rt⟩ := rw'.get gy
    have zl : z < s.heap.objs.size := Heap.lt_size s1
    have ha : a ≠ i1 := fun e => by
      obtain ⟨o, e1, c1, _⟩ := s4
      obtain ⟨o', e2, c2, _⟩ := id p1
      rw [e, e1] at e2
      cases e2
      rw [c1] at c2
      injection c2 with q
      exact absurd q (by decide)
    have hb : b ≠ i2 := fun e => by
      obtain ⟨o, e1, c1, _⟩ := s5
      obtain ⟨o', e2, c2, _⟩ := id p2.isList
      rw [e, e1] at e2
      cases e2
      rw [c1] at c2
      injection c2 with q
      exact absurd q (by decide)
    have hh : (X.A).in1.handled = none := I.ok.hd hc
    have l1 : i < us.toArray.size := by
      have := (List.getElem?_eq_some_iff.mp hu).1
      rw [List.size_toArray]
      exact this
    have l2 : i < ws.toArray.size := by
      have := (List.getElem?_eq_some_iff.mp ht).1
      rw [List.size_toArray]
      exact this
    refine wpAny_pyNext_zipD2_item S (Draws.tuple hh i1 a ha us.toArray) (Draws.list hh i2 b hb ws.toArray) s1 s2 s3 ⟨s4, p1⟩ ⟨s5, p2.isList⟩ l1 l2 fun x1 x2 h' tk g1 g2 z' o' t1 t2 new sz kept => ?_
    have e1 : x1 = u := by
      have q : us.toArray[i]? = some u := by simpa using hu
      exact Option.some.inj (g1.symm.trans q)
    have e2 : x2 = t := by
      have q : ws.toArray[i]? = some t := by simpa using ht
      exact Option.some.inj (g2.symm.trans q)
    subst e1 e2
    refine ⟨_, rfl, wpAny_letOwnedTupleGo_zip (s := { s with heap := h', toks := tk }) z' fun h'' z'' sb => ?_⟩
    have pair : h''.get? s.heap.objs.size = some { cls := .type "tuple", data := .seq #[x1, x2] } := (sb.2 _ (Nat.ne_of_gt zl)).trans new
    have ok : ObjOk X.prog X.w (upd H s.heap.objs.size (.tup [x, y])) h'' s.heap.objs.size (.tup [x, y]) := ⟨by show 2 ≤ sizeLine; decide, [x1, x2], .cons ru (.cons rt .nil), ⟨_, pair, rfl, _, rfl⟩⟩
    have J : Inv X pins σ (upd H s.heap.objs.size (.tup [x, y])) { s with heap := h'', toks := tk } :=
      I.turnedNew (ch := [z, TI, TO, i1, i2]) (fun c o n q => (sb.2 c (fun e => n (by simp [e]))).trans (kept c o (fun e => n (by simp [e])) (fun e => n (by simp [e])) (fun e => n (by simp [e])) (fun e => n (by simp [e])) q)) fresh (Nat.le_refl _) ok
    have i1z : i1 ≠ z := fun e => S.zf1 (by rw [← e]; simp)
    have i2z : i2 ≠ z := fun e => S.zf2 (by rw [← e]; simp)
    refine ⟨.ref s.heap.objs.size, _, J, rfl, ⟨_, x, y, rfl, I.hok.fresh (Nat.le_refl _), rfl, fun l hl => by rw [I.tuple_inj hl qa]; exact gx, fun l hl => by rw [I.list_inj hl qb]; exact gy⟩, ⟨z'', ?_, ⟨x1, x2, ?_⟩, ?_, ?_⟩, fun c hc => ?_⟩
    · exact (sb.2 _ S.TIz).trans (kept _ _ S.TIz S.TITO S.TIi1 S.TIi2 s2)
    · exact (sb.2 _ S.TOz).trans o'
    · obtain ⟨⟨o, f1, f2⟩, _⟩ := t1
      exact ⟨o, (sb.2 _ i1z).trans f1, f2⟩
    · obtain ⟨⟨o, f1, f2⟩, _⟩ := t2
      exact ⟨o, (sb.2 _ i2z).trans f1, f2⟩
    · have lt : c < s.heap.objs.size := by
        have q : c = z ∨ c = TI ∨ c = TO ∨ c = i1 ∨ c = i2 := by simpa using hc
        rcases q with rfl | rfl | rfl | rfl | rfl
        · exact zl
        · exact Heap.lt_size s2
        · exact Heap.lt_size s3
        · obtain ⟨_, f, _⟩ := s4; exact Heap.lt_size f
        · obtain ⟨_, f, _⟩ := s5; exact Heap.lt_size f
      rw [upd_ne (Nat.ne_of_lt lt)]
      exact (fresh c hc).1
  done := by
    intro X hP hw hK hc i pins s σ H E I fresh st stop
    subst hP hw hK
    obtain ⟨s1, s2, ⟨x0, y0, s3⟩, s4, s5⟩ := st
    obtain ⟨xs, ys, qa, qb, b1, b2, b3⟩ := stop
    obtain ⟨us, rv, p1, _⟩ := I.tuple qa
    obtain ⟨ws, rw', p2, _⟩ := I.list qb
    have n1 := rv.length
    have n2 := rw'.length
    have ha : a ≠ i1 := fun e => by
      obtain ⟨o, e1, c1, _⟩ := s4
      obtain ⟨o', e2, c2, _⟩ := id p1
      rw [e, e1] at e2
      cases e2
      rw [c1] at c2
      injection c2 with q
      exact absurd q (by decide)
    have hb : b ≠ i2 := fun e => by
      obtain ⟨o, e1, c1, _⟩ := s5
      obtain ⟨o', e2, c2, _⟩ := id p2.isList
      rw [e, e1] at e2
      cases e2
      rw [c1] at c2
      injection c2 with q
      exact absurd q (by decide)
    have hh : (X.A).in1.handled = none := I.ok.hd hc
    exact wpAny_pyNext_zipD2_end S (Draws.tuple hh i1 a ha us.toArray) (Draws.list hh i2 b hb ws.toArray) s1 s2 s3 ⟨s4, p1⟩ ⟨s5, p2.isList⟩ (by simp; omega) (by simp; omega) (by simp; omega) fun h' tk kept =>
      ⟨rfl, I.turnedL (ch := [z, TI, TO, i1, i2]) (fun c o n q => kept c o (fun e => n (by simp [e])) (fun e => n (by simp [e])) (fun e => n (by simp [e])) (fun e => n (by simp [e])) q) fresh⟩
  self := fun A i s Q E st h => wpAny_pyIter_zip st.1 h
def iZipTL (K : PySem.W.Frag) (ta : TA) : TI := fun σ H R => ta σ H fun vs H1 => ∃ a b xs ys, vs = [.ref a, .ref b] ∧ SqT K H1 a xs ∧ SqL K H1 b ys ∧ R (ItTL K a b) H1
theorem pi_zipTL {X : Cx} {e1 e2 : Expr} {ta : TA} {p pos tpos : Pos} {elts : List Expr} {kk : Nat} {K : PySem.W.Frag} (hg : Gl X "zip") (hm : X.mg "zip" = none) (ha : PA X [e1, e2] ta) (hK : X.K = K)
    (hs : starEach [e1, e2] X.env = (false, eval e1 X.env) :: starEach [e2] X.env := by rfl) (hpl : (backTo pos (starEach [e2] X.env)).any (·.1) = false := by rfl) :
    PI X (.Tuple elts kk tpos) (.Call (.Name "zip" p) [e1, e2] [] pos) (iZipTL K ta) := by
  subst hK
  refine ⟨fun pins s σ H R I h => ?_⟩
  refine Call_ (ld_blt I hg hm PyProof.Rows.boot_zip (PyProof.Rows.callWith_type1 (thn (ha.run pos pins s σ H _ I h) fun us s1 hh => ?_) hs hpl))
  obtain ⟨vs, H1, I1, r1, a, b, xs, ys, ex, qa, qb, q⟩ := hh
  subst ex
  cases r1 with
  | cons ra rest =>
    cases rest with
    | cons rb rest =>
      cases rest
      cases ra
      cases rb
      obtain ⟨us, rv, p1, _⟩ := I1.tuple qa
      obtain ⟨ws, rw', p2, _⟩ := I1.list qb
      have la : a < s1.heap.objs.size := by obtain ⟨_, z, _⟩ := id p1; exact Heap.lt_size z
      have lb : b < s1.heap.objs.size := p2.lt
      refine zip_begins2 (begins_tuple a us.toArray) (begins_list b ws.toArray) p1 p2.isList fun h' z1 z2 z3 z4 z5 sz kept => wpAny_pyIter_zip z1 ?_
      have I2 : Inv X pins σ H1 { s1 with heap := h' } := I1.kept (t' := s1.toks) kept
      have S : ZipSep2 (s1.heap.objs.size + 4) (s1.heap.objs.size + 2) (s1.heap.objs.size + 3) s1.heap.objs.size (s1.heap.objs.size + 1) [s1.heap.objs.size, a] [s1.heap.objs.size + 1, b] := zip_sep2 (fp1 := [a]) (fp2 := [b]) (fun c hc => by
        have : c = a := by simpa using hc
        rw [this]
        exact la) fun c hc => by
        have : c = b := by simpa using hc
        rw [this]
        exact lb
      refine ⟨s1.heap.objs.size + 4, [s1.heap.objs.size + 4, s1.heap.objs.size + 2, s1.heap.objs.size + 3, s1.heap.objs.size, s1.heap.objs.size + 1], _, _, H1, rfl, I2, turn_zipTL S, ⟨z1, z2, ⟨_, _, z3⟩, ⟨_, z4, rfl, rfl⟩, ⟨_, z5, rfl, rfl⟩⟩, fun c hc => ?_, q⟩
      have ge : s1.heap.objs.size ≤ c := by
        have e : c = s1.heap.objs.size + 4 ∨ c = s1.heap.objs.size + 2 ∨ c = s1.heap.objs.size + 3 ∨ c = s1.heap.objs.size ∨ c = s1.heap.objs.size + 1 := by simpa using hc
        rcases e with e | e | e | e | e <;> rw [e]
        · exact Nat.le_add_right _ _
        · exact Nat.le_add_right _ _
        · exact Nat.le_add_right _ _
        · exact Nat.le_refl _
        · exact Nat.le_add_right _ _
      exact I1.fpOk ge (I1.hok.fresh ge)
section
variable {α β : Type} {K : PySem.W.Frag} {r : Rp α} {s : Rp β} {H H0 : Hp} {a b : Addr} {xs : List α} {ys : List β} {vs ws : List V}
theorem walk_zipTL : Walk (ItTL K a b) (min vs.length ws.length) (fun H => SqT K H a vs ∧ SqL K H b ws) (YPair (fun i => vs[i]?) fun i => ws[i]?) := by
  refine ⟨fun i H hi ⟨h1, h2⟩ => ?_, fun H ⟨h1, h2⟩ => ?_, fun i H x H' hi ⟨h1, h2⟩ h => ?_⟩
  · exact ⟨vs, ws, vs[i]'(by omega), ws[i]'(by omega), h1, h2, by simp [List.getElem?_eq_getElem (show i < vs.length by omega)], by simp [List.getElem?_eq_getElem (show i < ws.length by omega)]⟩
  · exact ⟨vs, ws, h1, h2, by omega, by omega, by omega⟩
  · obtain ⟨T, x, y, rfl, hn, rfl, ex, ey⟩ := h
    exact ⟨T, x, y, rfl, hn, rfl, ex vs h1, ey ws h2⟩
theorem wk_zipTL [Imm r] [Imm s] (hp : Paired (r H0) xs vs) (hq : Paired (s H0) ys ws) : Wk (ItTL K a b) (xs.zip ys) (fun H => SqT K H a vs ∧ SqL K H b ws) (rP K r s) H0 := ⟨_, by rw [List.length_zip, Paired.length hp, Paired.length hq]; exact walk_zipTL, fun A i H v H' g hi h => by
  obtain ⟨T, x, y, rfl, hn, rfl, ex, ey⟩ := h
  obtain ⟨z, hz, hr⟩ := Paired.get1 hp ex
  obtain ⟨u, hu, hs⟩ := Paired.get1 hq ey
  exact ⟨(z, u), zip_get hz hu, Gr.new hn, T, x, y, rfl, SqT.of upd_same, Imm.mono (g.of0' (Gr.new hn)) hr, Imm.mono (g.of0' (Gr.new hn)) hs⟩⟩
def zipTLA (K : PySem.W.Frag) (R : It → Hp → Prop) (vs : List V) (H1 : Hp) : Prop := ∃ a b xs ys, vs = [.ref a, .ref b] ∧ SqT K H1 a xs ∧ SqL K H1 b ys ∧ R (ItTL K a b) H1
theorem rd_izipTL {l : TA} {σ : L2.St} {R : It → Hp → Prop} (h : l σ H (zipTLA K R)) : iZipTL K l σ H R := h
theorem zip_tl {R : It → Hp → Prop} {u v : V} {xs ys : List V} (e1 : u = .ref a) (e2 : v = .ref b) (h1 : SqT K H a xs) (h2 : SqL K H b ys) (h : R (ItTL K a b) H) : zipTLA K R [u, v] H := ⟨a, b, xs, ys, by rw [e1, e2], h1, h2, h⟩
end
end Mir
set_option Elab.async false
set_option linter.all false
set_option maxRecDepth 100000
namespace Mir
open PySem PySem.Spec PyProof.Rows L2
variable [Nm]
/-! ### texts -/
def strOk (y : Str) : Prop := y.length ≤ sizeLine
instance (y : Str) : Decidable (strOk y) := inferInstanceAs (Decidable (_ ≤ _))
def fmtOk (i : Int) : Prop := i.natAbs.log2 < 1920
instance (i : Int) : Decidable (fmtOk i) := inferInstanceAs (Decidable (_ < _))
section
variable {σ : L2.St} {H : Hp} {Q : VK} {te t : TE} {ts : List TE} {acc y : Str} {i : Int}
def fmtA (Q : VK) (x : V) (H1 : Hp) : Prop := (∃ y : Str, x = .str y ∧ y.length ≤ sizeLine ∧ Q (.str y) H1) ∨ ∃ i : Int, x = .int i ∧ i.natAbs.log2 < 1920 ∧ Q (.str (toString i)) H1
theorem rd_fmt (h : te σ H (fmtA Q)) : tFmt te σ H Q := h
theorem fmt_I (c : fmtOk i) (h : Q (.str (toString i)) H) : fmtA Q (.int i) H := .inr ⟨i, rfl, c, h⟩
theorem fmt_S (c : strOk y) (h : Q (.str y) H) : fmtA Q (.str y) H := .inl ⟨y, rfl, c, h⟩
def jsA (ts : List TE) (acc : Str) (σ : L2.St) (R : Str → Hp → Prop) (x : V) (H1 : Hp) : Prop := ∃ y : Str, x = .str y ∧ (acc ++ y).length ≤ sizeLine ∧ tJs ts (acc ++ y) σ H1 R
theorem rd_jc {R : Str → Hp → Prop} (h : t σ H (jsA ts acc σ R)) : tJs (t :: ts) acc σ H R := h
theorem rd_js {R : Str → Hp → Prop} (c : strOk (acc ++ y)) (h : tJs ts (acc ++ y) σ H R) : jsA ts acc σ R (.str y) H := ⟨y, rfl, c, h⟩
theorem rd_j0 {R : Str → Hp → Prop} (h : R acc H) : tJs [] acc σ H R := h
theorem rd_jd (h : tJs ts Str.empty σ H fun out H1 => Q (.str out) H1) : (fun σ H Q => tJs ts Str.empty σ H fun out H1 => Q (.str out) H1 : TE) σ H Q := h
end
section
variable {K : PySem.W.Frag} {X : Cx} {σ : L2.St} {H : Hp} {Q : VK} {to te : TE} {a : Addr} {sep : Str} {ys : List Str} {o e : Expr}
def rJoin (K : PySem.W.Frag) (x : V) (xs : List V) (H : Hp) (Q : VK) : Prop := ∃ a p, ∃ ys : List Str, x = .str a ∧ xs = [.ref p] ∧ (SqL K H p (ys.map V.str) ∨ SqT K H p (ys.map V.str)) ∧ (ys.map (·.length)).sum + ys.length * a.length ≤ 16777216 ∧ Q (.str (Txt.join a ys)) H
theorem pe_joinK {apos pos : Pos} (ho : PE X o to) (he : PE X e te) (hK : X.K = K) (hs : starEach [e] X.env = [(false, eval e X.env)] := by rfl) (hbase : attributeBase o "join" X.env (eval o X.env) = eval o X.env := by rfl) (hline : (apos.endLine == pos.line) = true := by rfl) :
    PE X (.Call (.Attribute o "join" apos) [e] [] pos) (tM1 (rJoin K) to te) := by
  subst hK
  exact pe_join ho he hs hbase hline
def joinA (K : PySem.W.Frag) (Q : VK) (sep : Str) (y : V) (H2 : Hp) : Prop := rJoin K (.str sep) [y] H2 Q
def joinOk (sep : Str) (ys : List Str) : Prop := (ys.map (·.length)).sum + ys.length * sep.length ≤ 16777216
instance (sep : Str) (ys : List Str) : Decidable (joinOk sep ys) := inferInstanceAs (Decidable (_ ≤ _))
theorem rd_join (h : te σ H (joinA K Q sep)) : tM1 (rJoin K) (tC (.str sep)) te σ H Q := ⟨⟨_, rfl⟩, h⟩
theorem strs_of : ∀ {ys : List Str} {vs : List V}, Paired (rS H) ys vs → vs = ys.map V.str
  | _, _, .nil => rfl
  | _, _, .cons h t => by rw [strs_of t, show _ = V.str _ from h]; rfl
theorem join_L (h : Lq K rS H a ys) (c : joinOk sep ys) (q : Q (.str (Txt.join sep ys)) H) : joinA K Q sep (.ref a) H := by
  obtain ⟨vs, h1, h2⟩ := h
  have e := strs_of h2
  subst e
  exact ⟨sep, a, ys, rfl, rfl, .inl h1, c, q⟩
end
end Mir
set_option Elab.async false
set_option linter.all false
set_option maxRecDepth 100000
namespace Mir
open PySem PySem.Spec PyProof.Rows L2
variable [Nm]
/-! ### dicts with tuples of any origin as keys -/
/-- an entry: the key, where its tuple stands, the value -/
abbrev Ent := List L2.Key × Addr × V
def EntOk (p : Ent) (q : List L2.Key × Addr × Value) : Prop := p.1 = q.1 ∧ p.2.1 = q.2.1 ∧ RelV p.2.2 q.2.2
/-- the one object of such a dict -/
def daAt (a : Addr) (d : List Ent) (h : Heap) : Prop :=
  d.length ≤ sizeLine ∧ (a == sysModules) = false ∧ ∃ o es ep xs, h.get? a = some o ∧ o.ExactDict ∧ o.data = .dict es ep ∧ (∀ (P : Program) (w : World), es.toList = xs.map (entryOfKey (tupleKind (mixKind P w)))) ∧ (xs.map (·.1)).Nodup ∧ Paired EntOk d xs
def DA (a : Addr) (d : List Ent) : HO := .ext (daAt a d)
/-- numbers alone -/
def IntK (k : List L2.Key) : Prop := ∃ n : List Int, k = n.map Sum.inl
/-- a tuple that may be a key -/
def KeyT (K : PySem.W.Frag) (H : Hp) (b : Addr) (k : List L2.Key) : Prop := IntK k ∧ SqT K H b (k.map kV)
def KeysT (K : PySem.W.Frag) (H : Hp) (d : List Ent) : Prop := ∀ p ∈ d, KeyT K H p.2.1 p.1
def atA (d : List Ent) (k : List L2.Key) : Option (Addr × V) := (d.find? fun p => decide (p.1 = k)).map (·.2)
def putA (d : List Ent) (k : List L2.Key) (b : Addr) (v : V) : List Ent := if (atA d k).isSome then d.map fun p => if p.1 = k then (p.1, p.2.1, v) else p else d ++ [(k, b, v)]
theorem ent_any {P P' : Program} {w w' : World} {xs : List (List L2.Key × Addr × Value)} (h : ∀ x ∈ xs, IntK x.1) : xs.map (entryOfKey (tupleKind (mixKind P w))) = xs.map (entryOfKey (tupleKind (mixKind P' w'))) := by
  refine List.map_congr_left fun x hx => ?_
  obtain ⟨k, b, v⟩ := x
  obtain ⟨n, e⟩ := h _ hx
  have e : k = n.map Sum.inl := e
  subst e
  unfold entryOfKey
  have z : (tupleKind (mixKind P w)).hash (n.map Sum.inl) = (tupleKind (mixKind P' w')).hash (n.map Sum.inl) := by
    show tupleKeyHash _ _ = tupleKeyHash _ _
    unfold tupleKeyHash
    rw [List.map_map, List.map_map]
    rfl
  rw [z]
theorem stored_int {xs : List (List L2.Key × Addr × Value)} {k : List L2.Key} {b : Addr} {u : Value} (h : ∀ x ∈ xs, IntK x.1) (hk : IntK k) : ∀ x ∈ storedH xs k b u, IntK x.1 := by
  unfold storedH
  split
  · intro x hx
    obtain ⟨y, hy, e⟩ := List.mem_map.mp hx
    subst e
    unfold putAt
    split
    · exact h y hy
    · exact h y hy
  · intro x hx
    rcases List.mem_append.mp hx with z | z
    · exact h x z
    · rw [List.mem_singleton.mp z]; exact hk
theorem da_ok {P : Program} {w : World} {H : Hp} {h : Heap} {a : Addr} {d : List Ent} (x : daAt a d h) : ObjOk P w H h a (DA a d) := by
  refine ⟨x, ?_, ?_⟩
  · obtain ⟨_, _, o, _, _, _, e, _⟩ := x
    exact ⟨o, e⟩
  · rintro h1 h2 ⟨z, y, o, es, ep, xs, e, r⟩ k
    exact ⟨z, y, o, es, ep, xs, k _ e, r⟩
theorem atA_rel {d : List Ent} {xs : List (List L2.Key × Addr × Value)} (r : Paired EntOk d xs) (k : List L2.Key) : RelO ((atA d k).map (·.2)) ((atKey xs k).map (·.2)) := by
  induction r with
  | nil => exact True.intro
  | @cons p q ps qs h t ih =>
    obtain ⟨e1, e2, e3⟩ := h
    unfold atA atKey at ih ⊢
    rw [List.find?_cons, List.find?_cons, e1]
    by_cases z : q.1 = k
    · rw [decide_eq_true z]; exact e3
    · rw [decide_eq_false z]; exact ih
theorem atA_some {d : List Ent} {xs : List (List L2.Key × Addr × Value)} (r : Paired EntOk d xs) (k : List L2.Key) : (atA d k).isSome = (atKey xs k).isSome := by
  have := (atA_rel r k).isSome_eq
  rwa [Option.isSome_map, Option.isSome_map] at this
theorem putA_rel {d : List Ent} {xs : List (List L2.Key × Addr × Value)} (r : Paired EntOk d xs) (k : List L2.Key) {b : Addr} {v : V} {u : Value} (rv : RelV v u) : Paired EntOk (putA d k b v) (storedH xs k b u) := by
  unfold putA storedH
  rw [atA_some r k]
  by_cases z : (atKey xs k).isSome = true
  · rw [if_pos z, if_pos z]
    clear z
    induction r with
    | nil => exact .nil
    | @cons p q ps qs h t ih =>
      obtain ⟨e1, e2, e3⟩ := h
      rw [List.map_cons, List.map_cons]
      refine .cons ?_ ih
      unfold putAt
      rw [e1]
      by_cases y : q.1 = k
      · rw [if_pos y, if_pos y]; exact ⟨rfl, e2, rv⟩
      · rw [if_neg y, if_neg y]; exact ⟨e1, e2, e3⟩
  · rw [if_neg z, if_neg z]; exact Paired.snoc r ⟨rfl, rfl, rv⟩
theorem putA_len (d : List Ent) (k : List L2.Key) (b : Addr) (v : V) : (putA d k b v).length ≤ d.length + 1 := by
  unfold putA
  split
  · rw [List.length_map]; omega
  · simp
section
variable {X : Cx} {A : Around} {pins : List (Addr × Obj)} {σ : L2.St} {H : Hp} {s : Shared} {E : Value → Shared → Prop} {a b : Addr} {d : List Ent} {k : List L2.Key} {v : V} {r : Value}
theorem keyT_of (I : Inv X pins σ H s) (h : KeyT X.K H b k) : (tupleKind (mixKind X.prog X.w)).is s.heap k b := by
  obtain ⟨its, r, ⟨o, h1, h2, n, h3⟩, _⟩ := I.tuple h.2
  exact ⟨o, its.toArray, n, h1, h2, h3, by simpa using items_are r⟩
theorem da_at (I : Inv X pins σ H s) (e : Rd H a (DA a d)) : daAt a d s.heap :=
  (show ObjOk X.prog X.w H s.heap a (DA a d) from rd_of I.hok e).1
theorem da_keys {xs : List (List L2.Key × Addr × Value)} {K : PySem.W.Frag} (r : Paired EntOk d xs) (q : KeysT K H d) : ∀ x ∈ xs, KeyT K H x.2.1 x.1 := by
  induction r with
  | nil => intro x hx; exact nomatch hx
  | @cons p y ps ys h t ih =>
    intro x hx
    rcases List.mem_cons.mp hx with e | hx
    · subst e
      have := q p (List.mem_cons_self ..)
      rw [h.1, h.2.1] at this
      exact this
    · exact ih (fun p hp => q p (List.mem_cons_of_mem _ hp)) x hx
theorem da_dict (I : Inv X pins σ H s) (e : Rd H a (DA a d)) (q : KeysT X.K H d) : (a == sysModules) = false ∧ d.length ≤ sizeLine ∧ ∃ xs, Paired EntOk d xs ∧ s.heap.DictOfH (tupleKind (mixKind X.prog X.w)) a xs := by
  obtain ⟨z, y, o, es, ep, xs, h1, h2, h3, h4, h5, r⟩ := da_at I e
  exact ⟨y, z, xs, r, o, es, ep, h1, h2, h3, h4 _ _, fun x hx => keyT_of I (da_keys r q x hx), h5⟩
/-- a look into it -/
theorem da_get {p : Addr × V} {Q : Value → Shared → Prop} (hu : A.units + 1 < cLine) (I : Inv X pins σ H s) (e : Rd H a (DA a d)) (q : KeysT X.K H d) (kb : KeyT X.K H b k) (hp : atA d k = some p)
    (h : ∀ w' s', Inv X pins σ H s' → RelV p.2 w' → Q w' s') : wpAny (model X.prog X.w) A (getItem (.ref a) (.ref b)) Q E s := by
  obtain ⟨_, _, xs, r, dd⟩ := da_dict I e q
  have z : RelO (some p.2) ((atKey xs k).map (·.2)) := by
    have z := atA_rel r k
    rw [hp] at z
    exact z
  obtain ⟨w', hw, rw'⟩ := RelO.some_of (v := p.2) (o := (atKey xs k).map (·.2)) z
  obtain ⟨p', hp', e'⟩ := Option.map_eq_some_iff.mp hw
  refine wpAny_getItem_heap (tupleKind_room_in1 hu) (keyT_of I kb) dd hp' ?_
  rw [e']
  exact h w' _ (I.tok _) rw'
/-- an entry put in by a comprehension -/
theorem da_set {Q : Unit → Shared → Prop} (hu : A.units + 1 < cLine) (I : Inv X pins σ H s) (e : H a = some (DA a d)) (q : KeysT X.K H d) (kb : KeyT X.K H b k) (hl : d.length < sizeLine) (rv : RelV v r)
    (h : ∀ s', Inv X pins σ (upd H a (DA a (putA d k b v))) s' → Q () s') : wpAny (model X.prog X.w) A (dictSet a (.ref b) r) Q E s := by
  obtain ⟨y, z, xs, rel, dd⟩ := da_dict I (.inl e) q
  have hz : xs.length ≤ sizeLine := by rw [← Paired.length rel]; exact z
  have hl2 : (putA d k b v).length ≤ sizeLine := by have := putA_len d k b v; omega
  refine wpAny_dictSet_heap (hsz := hz) (show A.units < cLine by omega) (keyT_of I kb) dd fun h' dd' hs => h _ ?_
  obtain ⟨o, es, ep, hq, h2, h3, h4, _, h5⟩ := dd'
  exact d_write I (by rw [e]; exact True.intro) hs ⟨o, hq⟩ (da_ok ⟨hl2, y, o, es, ep, _, hq, h2, h3, fun P w => h4.trans (ent_any (stored_int (fun x hx => (da_keys rel q x hx).1) kb.1)), h5, putA_rel rel k rv⟩)
/-- the empty one -/
theorem da_new (h : Heap) (hb : sysModules < h.objs.size) : daAt h.objs.size [] (h.push { cls := .type "dict", data := .dict #[] }) :=
  ⟨Nat.zero_le _, beq_eq_false_iff_ne.mpr (Ne.symm (Nat.ne_of_lt hb)), _, #[], 0, [], Heap.get?_push_size _ rfl, ⟨rfl, rfl, rfl⟩, rfl, fun _ _ => rfl, List.nodup_nil, .nil⟩
end
/-! ### {k: v for ..} whose keys are tuples -/
/-- the end of a turn -/
def dputA (K : PySem.W.Frag) (D : Addr) (Nx : Hp → Prop) (y z : V) (H : Hp) : Prop :=
  ∃ b d k, y = .ref b ∧ KeyT K H b k ∧ H D = some (DA D d) ∧ KeysT K H d ∧ d.length < sizeLine ∧ Nx (upd H D (DA D (putA d k b z)))
/-- the turns of an iterator, a dict at D -/
def dturns (K : PySem.W.Frag) (g : TG) (tk tv : TE) (vs : List Nat) (σ : L2.St) (Q : VK) (J : It) (H1 : Hp) : Prop :=
  ∀ D, H1 D = none → ∃ W : Nat → Nat → Hp → Prop, (∃ m, W 0 m (upd H1 D (DA D []))) ∧ ∀ i m H, W i m H →
    (J.stop i H ∧ Q (.ref D) H) ∨ (J.go i H ∧ ∃ Nx : Hp → Prop, (∀ H', Nx H' → ∃ m', m' < m ∧ W (i + 1) m' H') ∧ ∀ x H', J.yld i H x H' →
      g x (wipe σ vs) H' fun σ2 H2 => wipe σ2 vs = wipe σ vs ∧ tk σ2 H2 fun y H4 => tv σ2 H4 fun z H5 => dputA K D Nx y z H5)
def tDcA (K : PySem.W.Frag) (wi : TI) (g : TG) (tk tv : TE) (vs : List Nat) : TE := fun σ H Q => wi σ H (dturns K g tk tv vs σ Q)
section
variable {X : Cx}
theorem pe_dcA {K : PySem.W.Frag} (eK : X.K = K) {kx vx tg iter : Expr} {scope : Scope} {own : List (Str × Nat)} {pos : Pos} {wi : TI} {g : TG} {tk tv : TE} (hu : X.A.units + 1 < cLine) (hc : X.calm = true) (hN : X.N.Nodup) (hi : PI X tg iter wi) (ok : BlkOk X.N X.env.scope scope own)
    (hg : ∀ (s : Shared) (H : Hp) (C : Addr) (cl : List (Str × Addr)) (fp : List Addr), PG (X.blk s H scope (compEnvC scope cl C X.env) fp) tg g)
    (hk : ∀ (s : Shared) (H : Hp) (C : Addr) (cl : List (Str × Addr)) (fp : List Addr), PE (X.blk s H scope (compEnvC scope cl C X.env) fp) kx tk)
    (hv : ∀ (s : Shared) (H : Hp) (C : Addr) (cl : List (Str × Addr)) (fp : List Addr), PE (X.blk s H scope (compEnvC scope cl C X.env) fp) vx tv) (hs : ∀ x, foldedSetIterable iter X.env x = pure x := by intro _; rfl) :
    PE X (.DictComp kx vx [⟨tg, iter, [], 0⟩] scope pos) (tDcA K wi g tk tv (own.map (·.2))) := by
  subst eK
  refine ⟨fun pins s σ H Q I h => ?_⟩
  rw [arm_eval_DictComp]
  have captured : ∀ y ∈ scope.names, y.2 = .free → ∃ c, X.env.cells.lookup y.1 = some c := fun y hy e =>
    I.ok.has _ (ok.free y hy e)
  refine wpAny_comprehension_free (use := none) rfl hs (closure_ok captured) ok.kind (fun y hy e => by rw [ok.uniq y hy, e])
    (thn (hi.run pins s σ H _ I h) fun _ s1 h1 => thn h1 fun _ s2 ⟨it, fp, tn, J, H2, ev, I2, T, t0, f2, turns⟩ => ?_)
  subst ev
  refine wpAny_newObj_type (newEnv_comp ?_)
  -- the dict, and the heap with it
  have hDn : H2 s2.heap.objs.size = none := I2.hok.fresh (Nat.le_refl _)
  obtain ⟨W, ⟨m0, w0⟩, turn⟩ := turns _ hDn
  have I3 := I2.laid (t' := s2.toks) (h' := s2.heap.push { cls := .type "dict", data := .dict #[] }) (o := DA s2.heap.objs.size []) (fun b o e => Heap.get?_push_of_some _ e) (Nat.le_refl _) (da_ok (da_new _ I2.big))
  have small : ∀ b ∈ fp, b < s2.heap.objs.size := fun b hb => let ⟨o, e, _⟩ := T.obj _ _ t0 b hb; Heap.lt_size e
  have f3 : ∀ b ∈ fp, FpOk X pins (upd H2 s2.heap.objs.size (DA s2.heap.objs.size [])) b ∧ b < (s2.heap.push { cls := .type "dict", data := .dict #[] }).objs.size := fun b hb =>
    ⟨⟨by rw [upd_ne (Nat.ne_of_lt (small b hb))]; exact (f2 b hb).1, (f2 b hb).2⟩, by rw [Heap.size_push]; exact Nat.lt_succ_of_lt (small b hb)⟩
  have t3 : tn 0 (s2.heap.push { cls := .type "dict", data := .dict #[] }) := T.keep _ _ _ t0 fun b _ o e => Heap.get?_push_of_some _ e
  obtain ⟨D, hD⟩ : ∃ D, D = s2.heap.objs.size := ⟨_, rfl⟩
  obtain ⟨s3, hs3⟩ : ∃ z : Shared, z = { s2 with heap := s2.heap.push { cls := .type "dict", data := .dict #[] } } := ⟨_, rfl⟩
  have e3 : s3.heap = s2.heap.push { cls := .type "dict", data := .dict #[] } := by rw [hs3]
  rw [← hD] at I3 w0 turn f3
  rw [← e3] at t3 f3
  rw [← hs3] at I3
  obtain ⟨H3, hH3⟩ : ∃ z : Hp, z = upd H2 D (DA D []) := ⟨_, rfl⟩
  rw [← hH3] at I3 w0 f3
  have I4 := block_start I3 ok hN f3
  have none3 : ∀ b ∈ fp, H3 b = none := fun b hb => (f3 b hb).1.1
  have t4 : tn 0 (pushCells (s3.heap.push { cls := .type "dict", data := .dict #[] }) scope.names) := T.keep _ _ _ t3 fun b _ o e => pushCells_keeps _ _ _ _ (Heap.get?_push_of_some _ e)
  have pg := hg s3 H3 s3.heap.objs.size (cellsFrom (s3.heap.objs.size + 1) scope.names (cloFrom X.env.cells scope.names [])) fp
  have pk := hk s3 H3 s3.heap.objs.size (cellsFrom (s3.heap.objs.size + 1) scope.names (cloFrom X.env.cells scope.names [])) fp
  have pv := hv s3 H3 s3.heap.objs.size (cellsFrom (s3.heap.objs.size + 1) scope.names (cloFrom X.env.cells scope.names [])) fp
  rw [← hD, ← hs3]
  obtain ⟨ce, hce⟩ : ∃ z : Env, z = compEnvC scope (cellsFrom (s3.heap.objs.size + 1) scope.names (cloFrom X.env.cells scope.names [])) s3.heap.objs.size X.env := ⟨_, rfl⟩
  show codeAny _ _ (.compStart (.DictComp kx vx [⟨tg, iter, [], 0⟩] scope pos) 0 (.ref it) (.ref D) (compEnvC scope (cellsFrom (s3.heap.objs.size + 1) scope.names (cloFrom X.env.cells scope.names [])) s3.heap.objs.size X.env)) (compPost (model X.prog X.w) X.A X.xe none _ (.ref D) s3.heap.objs.size) { s3 with heap := pushCells (s3.heap.push { cls := .type "dict", data := .dict #[] }) scope.names }
  rw [← hce] at I4 pg pk pv ⊢
  have cL : ce.locals = s3.heap.objs.size := by rw [hce]; rfl
  obtain ⟨s4, hs4⟩ : ∃ z : Shared, z = { s3 with heap := pushCells (s3.heap.push { cls := .type "dict", data := .dict #[] }) scope.names } := ⟨_, rfl⟩
  rw [← hs4] at I4 ⊢
  have t4 : tn 0 s4.heap := by rw [hs4]; exact t4
  obtain ⟨B, hB⟩ : ∃ z : Cx, z = X.blk s3 H3 scope ce fp := ⟨_, rfl⟩
  have stand : ∀ {σ' : L2.St} {H' : Hp} {s' : Shared}, Inv (X.blk s3 H3 scope ce fp) [] σ' H' s' → (∀ b ∈ fp, H' b = none) → ∀ b ∈ fp, FpOk (X.blk s3 H3 scope ce fp) [] H' b := fun I' n b hb =>
    ⟨n b hb, (I'.ok.exf b hb).1, I'.ok.exfs b hb, .inl hb, fun x c e => (I'.ok.exf b hb).2 x c e, fun p hp => absurd (show p ∈ ([] : List (Addr × Obj)) ++ [] from hp) (by simp)⟩
  refine (fun loop => codeAny_compStart_dict loop (T.self X.A 0 _ _ _ t4 loop)) ?_
  refine compLoop_anyD (fun n s' => ∃ i H', W i n H' ∧ tn i s'.heap ∧ (∀ b ∈ fp, H' b = none) ∧ Inv (X.blk s3 H3 scope ce fp) [] (wipe σ (own.map (·.2))) H' s') ?_ m0 ⟨0, H3, w0, t4, none3, I4⟩
  rintro n s5 ⟨i, H5, w5, t5, n5, I5⟩
  rcases turn i n H5 w5 with ⟨stop, q5⟩ | ⟨go, Nx, hNx, step⟩
  · -- no more items: back in the def
    refine thnF (T.done (X.blk s3 H3 scope ce fp) rfl rfl rfl hc i [] s5 _ H5 (fun _ _ => False) I5 (stand I5 n5) t5 stop) fun r s6 ⟨er, I6⟩ => ?_
    subst er
    have I7 : Inv X pins σ H5 s6 := I3.call' (ch := fp) I6.os I6.base I6.hok I6.bare fun b hb => let f := (f3 b hb).1.2; ⟨f.2.2.1, f.1, f.2.2.2.1, f.2.2.2.2⟩
    have free : H5 s3.heap.objs.size = none := by rw [← cL]; exact I6.free
    obtain ⟨m, hn, _⟩ := I6.loc
    have hn : s6.heap.Ns s3.heap.objs.size m := by rw [← cL]; exact hn
    obtain ⟨f0, f1, _, f3', f4, f5⟩ := I3.fpOk (Nat.le_refl _) free
    exact ⟨m, hn, fun h'' sb => ⟨.ref D, H5, I7.turned (t' := s6.toks) (fun b o hb e => (sb.2 b hb).trans e) f0 f1 f3' f4 f5, rfl, q5⟩⟩
  · refine thnF (T.item (X.blk s3 H3 scope ce fp) rfl rfl rfl hc i [] s5 _ H5 (fun _ _ => False) I5 (stand I5 n5) t5 go) fun r s6 ⟨u, er, h6⟩ => ?_
    subst er
    refine thnF h6 fun _ s7 ⟨x, H7, I7, r7, y7, t7, n7⟩ => ?_
    refine thnF (pg.run _ s7 _ H7 x u _ (I7.pinned (stand I7 n7) (T.obj _ _ t7)) r7 (step x H7 y7)) fun _ s8 ⟨σ8, H8, I8, hw, q8⟩ => ?_
    refine wpAny_pure ?_
    rw [if_pos rfl]
    refine thnF (pk.run _ s8 σ8 H8 _ I8 q8) fun yv s9 ⟨y, H9, I9, r9, q9⟩ => ?_
    refine thnF (pv.run _ s9 σ8 H9 _ I9 q9) fun zv s10 ⟨z, H10, I10, r10, b, d, k, ey, kb, hd, ks, hl, nx⟩ => ?_
    subst ey
    obtain rfl : yv = Value.ref b := r9
    refine da_set (X := X.blk s3 H3 scope ce fp) hu I10 hd ks kb hl r10 fun s11 I11 => ?_
    obtain ⟨m', hm, w'⟩ := hNx _ nx
    have pin : ∀ c ∈ fp, ∀ o, s7.heap.get? c = some o → s11.heap.get? c = some o ∧ upd H10 D (DA D (putA d k b z)) c = none := fun c hb o e =>
      let z := I11.pin (c, o) (List.mem_append_right _ (List.mem_append_right _ (mem_pinsAt hb e)))
      ⟨z.1, z.2.1⟩
    refine ⟨m', hm, i + 1, _, w', T.keep _ _ _ t7 fun c hb o e => (pin c hb o e).1, fun c hb => ?_, (I11.unpinned (pins := [])).weak (by rw [← hw, wipe_length]) fun j v e => ?_⟩
    · obtain ⟨o, e, _⟩ := T.obj _ _ t7 c hb
      exact (pin c hb o e).2
    · rw [← hw] at e
      exact (wipe_some e).1
end
/-! ### looked up -/
def dgetA (K : PySem.W.Frag) (Q : VK) (x y : V) (H : Hp) : Prop := ∃ a b d k p, x = .ref a ∧ y = .ref b ∧ Rd H a (DA a d) ∧ KeysT K H d ∧ KeyT K H b k ∧ atA d k = some p ∧ Q p.2 H
def tDGetA (K : PySem.W.Frag) (td ty : TE) : TE := fun σ H Q => td σ H fun x H1 => ty σ H1 (dgetA K Q x)
section
variable {X : Cx} {K : PySem.W.Frag}
theorem pe_dgetA {o i : Expr} {pos : Pos} {td ty : TE} (eK : X.K = K) (hu : X.A.units + 1 < cLine) (ho : PE X o td) (hi : PE X i ty) (hs : NoSl i) : PE X (.Subscript o i pos) (tDGetA K td ty) := by
  subst eK
  refine ⟨fun pins s σ H Q I h => subD_of PySem.F.slot_dict_getitem.lookup hs (thn (ho.run pins s σ H _ I h) fun u s1 ⟨x, H1, I1, rx, q1⟩ => thn (hi.run pins s1 σ H1 _ I1 q1) fun iv s2 ⟨y, H2, I2, ry, a, b, d, k, p, ex, ey, e, ks, kb, at_, q⟩ => ?_)⟩
  subst ex ey
  obtain rfl : u = Value.ref a := rx
  obtain rfl : iv = Value.ref b := ry
  obtain ⟨_, _, xs, _, dd⟩ := da_dict I2 e ks
  exact ⟨dd.typeIs, da_get hu I2 e ks kb at_ fun w' s3 I3 rw' => ⟨p.2, H2, I3, rw', q⟩⟩
end
/-! ### as mirrors: keys rows of numbers -/
def atM {κ β : Type} [DecidableEq κ] (d : List (κ × β)) (k : κ) : Option β := (d.find? fun p => decide (p.1 = k)).map (·.2)
def putM {κ β : Type} [DecidableEq κ] (d : List (κ × β)) (k : κ) (x : β) : List (κ × β) := if (atM d k).isSome then d.map fun p => if p.1 = k then (p.1, x) else p else d ++ [(k, x)]
/-- d[k]; nothing is said of a key that is not there -/
def getM {κ β : Type} [DecidableEq κ] (d : List (κ × β)) (k : κ) : R β := match atM d k with
  | some x => .ok x
  | none => .out
section
variable {β : Type} {r : Rp β} {K : PySem.W.Frag} {H H' : Hp} {a b D p : Addr} {A : List Addr} {d : List (List Int × β)} {k : List Int} {x : β} {y z v : V}
def EntM (r : Rp β) (H : Hp) (p : List Int × β) (q : Ent) : Prop := q.1 = p.1.map Sum.inl ∧ r H p.2 q.2.2
/-- a dict in the making -/
def LsD (K : PySem.W.Frag) (r : Rp β) (H : Hp) (a : Addr) (d : List (List Int × β)) : Prop := ∃ e, H a = some (DA a e) ∧ KeysT K H e ∧ Paired (EntM r H) d e
/-- one that stands still -/
def rDA (K : PySem.W.Frag) (r : Rp β) : Rp (List (List Int × β)) := fun H d v => ∃ a o e, v = .ref a ∧ H a = some (.frz o (DA a e)) ∧ KeysT K H e ∧ Paired (EntM r H) d e
theorem inl_inj : ∀ {m n : List Int}, (m.map Sum.inl : List L2.Key) = n.map Sum.inl → m = n
  | [], [], _ => rfl
  | _ :: _, _ :: _, e => by
    rw [List.map_cons, List.map_cons] at e
    injection e with e1 e2
    injection e1 with e1
    rw [e1, inl_inj e2]
theorem atM_rel {e : List Ent} (h : Paired (EntM r H) d e) (k : List Int) : match atM d k, atA e (k.map Sum.inl) with
    | some x, some p => r H x p.2
    | none, none => True
    | _, _ => False := by
  induction h with
  | nil => exact True.intro
  | @cons p q ps qs h t ih =>
    obtain ⟨e1, e2⟩ := h
    unfold atM atA at ih ⊢
    rw [List.find?_cons, List.find?_cons, e1]
    by_cases z : p.1 = k
    · rw [decide_eq_true z, decide_eq_true (by rw [z])]; exact e2
    · rw [decide_eq_false z, decide_eq_false fun w => z (inl_inj w)]; exact ih
theorem ints_kV : ∀ {k : List Int} {vs : List V}, Paired (rI H) k vs → vs = (k.map Sum.inl : List L2.Key).map kV
  | _, _, .nil => rfl
  | _, _, .cons h t => by rw [ints_kV t, show _ = V.int _ from h]; rfl
theorem kT (h : rT K rI H k v) : ∃ b, v = .ref b ∧ KeyT K H b (k.map Sum.inl) := by
  obtain ⟨b, e, vs, h1, h2⟩ := h
  exact ⟨b, e, ⟨k, rfl⟩, by rw [← ints_kV h2]; exact h1⟩
theorem KeyT.im {q : List L2.Key} (g : Im H H') (h : KeyT K H b q) : KeyT K H' b q := ⟨h.1, g.tup h.2⟩
theorem KeysT.im {e : List Ent} (g : Im H H') (h : KeysT K H e) : KeysT K H' e := fun p hp => (h p hp).im g
theorem EntM.im [Imm r] {e : List Ent} (g : Im H H') (h : Paired (EntM r H) d e) : Paired (EntM r H') d e := Paired.mapP h fun _ _ q => ⟨q.1, Imm.im g q.2⟩
instance [Imm r] : Imm (rDA K r) := ⟨fun g ⟨a, o, e, h0, h1, h2, h3⟩ => ⟨a, o, e, h0, g _ _ h1 rfl, h2.im g, EntM.im g h3⟩⟩
/-- a heap whose one thing is a code object, over and over -/
theorem kd_DA {e : List Ent} : kd (DA a e) = 6 := by
  unfold kd DA
  refine if_neg ?_
  rintro ⟨c, q, z⟩
  unfold LamX.CodeO at z
  injection z with z
  let o : Obj := { cls := .none, data := .fields #[.none, .str q default] }
  let h : Heap := { objs := Array.replicate (c + 1) o }
  have at_ : ∀ b u, h.get? b = some u → u = o := fun b u hu => by
    have hu : (Array.replicate (c + 1) o)[b]? = some u := ((Heap.get?_eq_some _ _ _).mp hu).1
    rw [Array.getElem?_replicate] at hu
    split at hu
    · exact (Option.some.inj hu).symm
    · cases hu
  have y : daAt a e h := by
    rw [z]
    refine ⟨o, #[.none, .str q default], default, ?_, rfl, rfl⟩
    refine (Heap.get?_eq_some _ _ _).mpr ⟨?_, rfl⟩
    show (Array.replicate (c + 1) o)[c]? = some o
    rw [Array.getElem?_replicate, if_pos (Nat.lt_succ_self c)]
  obtain ⟨_, _, u, es, ep, _, hu, _, hd, _⟩ := y
  rw [at_ _ _ hu] at hd
  cases hd
theorem LsD.gA [Imm r] (g : Gr A H H') (n : a ∉ A) (h : LsD K r H a d) : LsD K r H' a d :=
  let ⟨e, h1, h2, h3⟩ := h
  ⟨e, g.to h1 (fun m => absurd m n) (by rw [kd_DA]; decide), h2.im g.im, EntM.im g.im h3⟩
theorem LsD.g0 [Imm r] (g : Gr [] H H') (h : LsD K r H a d) : LsD K r H' a d := h.gA g (by simp)
theorem LsD.fz [Imm r] (g : Fz b H H') (n : a ≠ b) (h : LsD K r H a d) : LsD K r H' a d := let ⟨e, h1, h2, h3⟩ := h; ⟨e, g.ne _ _ n h1, h2.im g.im, EntM.im g.im h3⟩
theorem LsD.new : LsD K r (upd H a (DA a [])) a [] := ⟨[], upd_same, nofun, .nil⟩
theorem gr_DA {e e' : List Ent} (h : H a = some (DA a e)) : Gr [a] H (upd H a (DA a e')) := Gr.setK h (by rw [kd_DA]; decide) (by rw [kd_DA]; decide) (kd_DA.trans kd_DA.symm)
theorem put_rel [Imm r] {e : List Ent} (h : Paired (EntM r H) d e) (k : List Int) (b : Addr) (hx : r H x z) : Paired (EntM r H) (putM d k x) (putA e (k.map Sum.inl) b z) := by
  have q := atM_rel h k
  unfold putM putA
  cases e1 : atM d k with
  | none =>
    cases e2 : atA e (k.map Sum.inl) with
    | none => exact Paired.snoc h ⟨rfl, hx⟩
    | some p => rw [e1, e2] at q; exact q.elim
  | some y =>
    cases e2 : atA e (k.map Sum.inl) with
    | none => rw [e1, e2] at q; exact q.elim
    | some p =>
      clear q e1 e2
      show Paired _ (d.map _) (e.map _)
      induction h with
      | nil => exact .nil
      | @cons p q ps qs h t ih =>
        rw [List.map_cons, List.map_cons]
        refine .cons ?_ ih
        by_cases w : p.1 = k
        · rw [if_pos w, if_pos (by rw [h.1, w])]; exact ⟨h.1, hx⟩
        · rw [if_neg w, if_neg fun c => w (inl_inj (h.1.symm.trans c))]; exact h
theorem put_keys {e : List Ent} {q : List L2.Key} (h : KeysT K H e) (hb : KeyT K H b q) : KeysT K H (putA e q b z) := by
  unfold putA
  split
  · intro p hp
    obtain ⟨y, hy, e⟩ := List.mem_map.mp hp
    subst e
    have := h y hy
    split <;> exact this
  · intro p hp
    rcases List.mem_append.mp hp with w | w
    · exact h p w
    · rw [List.mem_singleton.mp w]; exact hb
/-- the end of a turn -/
theorem dput_D [Imm r] {Nx : Hp → Prop} (h : LsD K r H D d) (hk : rT K rI H k y) (hx : r H x z) (l : lenLt d) (q : ∀ H', Gr [D] H H' → LsD K r H' D (putM d k x) → Nx H') : dputA K D Nx y z H := by
  obtain ⟨e, h1, h2, h3⟩ := h
  obtain ⟨b, ey, kb⟩ := kT hk
  have g := (gr_DA (e' := putA e (k.map Sum.inl) b z) h1)
  exact ⟨b, e, _, ey, kb, h1, h2, by rw [← Paired.length h3]; exact l, q _ g ⟨_, upd_same, (put_keys h2 kb).im g.im, EntM.im g.im (put_rel h3 k b hx)⟩⟩
/-- d[k] -/
theorem dget_D {E : Er → Prop} {P : β → Prop} {Q : VK} (h : rDA K r H d v) (hk : rT K rI H k y) (hm : wp (getM d k) P E) (q : ∀ (x : β) (w : V), r H x w → P x → Q w H) : dgetA K Q v y H := by
  obtain ⟨a, o, e, ev, h1, h2, h3⟩ := h
  obtain ⟨b, ey, kb⟩ := kT hk
  have z := atM_rel h3 k
  unfold getM at hm
  cases e1 : atM d k with
  | none => rw [e1] at hm; exact hm.elim
  | some x =>
    cases e2 : atA e (k.map Sum.inl) with
    | none => rw [e1, e2] at z; exact z.elim
    | some p =>
      rw [e1, e2] at z
      rw [e1] at hm
      exact ⟨a, b, e, _, p, ev, ey, .inr ⟨o, h1⟩, h2, kb, e2, q x _ z hm⟩
/-- from now on it stands still -/
theorem fz_D [Imm r] {Q : VK} (h : LsD K r H a d) (q : ∀ H2, Fz a H H2 → rDA K r H2 d (.ref a) → Q (.ref a) H2) : frzA Q (.ref a) H := by
  obtain ⟨e, h1, h2, h3⟩ := h
  have g : ∀ od, Im H (upd H a (.frz od (DA a e))) := fun od => Im.frz h1 (by rw [kd_DA]; decide)
  exact ⟨a, _, rfl, h1, trivial, fun od => q _ ⟨g od, fun b o n hb => by rw [upd_ne n]; exact hb, by rw [upd_same]; intro z; cases z⟩ ⟨a, od, e, rfl, upd_same, h2.im (g od), EntM.im (g od) h3⟩⟩
end
/-! ### dicts with texts as keys -/
section
variable {β : Type} {r : Rp β} {K : PySem.W.Frag} {H H' : Hp} {a b D p : Addr} {A : List Addr} {d : List (Str × β)} {k : Str} {x : β} {z v : V}
def EntS (r : Rp β) (H : Hp) (p : Str × β) (q : L2.Key × V) : Prop := q.1 = Sum.inr p.1 ∧ r H p.2 q.2
def LsS (r : Rp β) (H : Hp) (a : Addr) (d : List (Str × β)) : Prop := ∃ e, H a = some (.dK e) ∧ Paired (EntS r H) d e
def rDS (r : Rp β) : Rp (List (Str × β)) := fun H d v => ∃ a o e, v = .ref a ∧ H a = some (.frz o (.dK e)) ∧ Paired (EntS r H) d e
theorem atS_rel {e : List (L2.Key × V)} (h : Paired (EntS r H) d e) (k : Str) : match atM d k, valV e (Sum.inr k) with
    | some x, some p => r H x p
    | none, none => True
    | _, _ => False := by
  induction h with
  | nil => exact True.intro
  | @cons p q ps qs h t ih =>
    obtain ⟨e1, e2⟩ := h
    unfold atM valV at ih ⊢
    rw [List.find?_cons, List.find?_cons, e1]
    by_cases z : p.1 = k
    · rw [decide_eq_true z, decide_eq_true (by rw [z])]; exact e2
    · rw [decide_eq_false z, decide_eq_false fun w => z (by injection w)]; exact ih
theorem EntS.im [Imm r] {e : List (L2.Key × V)} (g : Im H H') (h : Paired (EntS r H) d e) : Paired (EntS r H') d e := Paired.mapP h fun _ _ q => ⟨q.1, Imm.im g q.2⟩
instance [Imm r] : Imm (rDS r) := ⟨fun g ⟨a, o, e, h0, h1, h3⟩ => ⟨a, o, e, h0, g _ _ h1 rfl, EntS.im g h3⟩⟩
theorem LsS.gA [Imm r] (g : Gr A H H') (n : a ∉ A) (h : LsS r H a d) : LsS r H' a d := let ⟨e, h1, h3⟩ := h; ⟨e, g.to h1 (fun m => absurd m n) nofun, EntS.im g.im h3⟩
theorem LsS.g0 [Imm r] (g : Gr [] H H') (h : LsS r H a d) : LsS r H' a d := h.gA g (by simp)
theorem LsS.fz [Imm r] (g : Fz b H H') (n : a ≠ b) (h : LsS r H a d) : LsS r H' a d := let ⟨e, h1, h3⟩ := h; ⟨e, g.ne _ _ n h1, EntS.im g.im h3⟩
theorem LsS.new : LsS r (upd H a (.dK [])) a [] := ⟨[], upd_same, .nil⟩
theorem gr_dK {e e' : List (L2.Key × V)} (h : H a = some (.dK e)) : Gr [a] H (upd H a (.dK e')) := Gr.setK h (by show 2 ≠ 0; decide) (by show 2 ≠ 9; decide) rfl
theorem putS_rel [Imm r] {e : List (L2.Key × V)} (h : Paired (EntS r H) d e) (k : Str) (hx : r H x z) : Paired (EntS r H) (putM d k x) (putK e (Sum.inr k) z) := by
  have q := atS_rel h k
  unfold putM putK
  rw [valV_any]
  cases e1 : atM d k with
  | none =>
    cases e2 : valV e (Sum.inr k) with
    | none => exact Paired.snoc h ⟨rfl, hx⟩
    | some p => rw [e1, e2] at q; exact q.elim
  | some y =>
    cases e2 : valV e (Sum.inr k) with
    | none => rw [e1, e2] at q; exact q.elim
    | some p =>
      clear q e1 e2
      show Paired _ (d.map _) (e.map _)
      induction h with
      | nil => exact .nil
      | @cons p q ps qs h t ih =>
        rw [List.map_cons, List.map_cons]
        refine .cons ?_ ih
        by_cases w : p.1 = k
        · rw [if_pos w, if_pos (by rw [h.1, w])]; exact ⟨h.1, hx⟩
        · rw [if_neg w, if_neg fun c => w (by rw [h.1] at c; injection c)]; exact h
def dputS (D : Addr) (Nx : Hp → Prop) (y z : V) (H : Hp) : Prop := ∃ e k, y = kV k ∧ H D = some (.dK e) ∧ e.length < sizeLine ∧ Nx (upd H D (.dK (putK e k z)))
theorem dput_S [Imm r] {Nx : Hp → Prop} (h : LsS r H D d) (hx : r H x z) (l : lenLt d) (q : ∀ H', Gr [D] H H' → LsS r H' D (putM d k x) → Nx H') : dputS D Nx (.str k) z H := by
  obtain ⟨e, h1, h3⟩ := h
  have g := (gr_dK (e' := putK e (Sum.inr k) z) h1)
  exact ⟨e, Sum.inr k, rfl, h1, by rw [← Paired.length h3]; exact l, q _ g ⟨_, upd_same, EntS.im g.im (putS_rel h3 k hx)⟩⟩
def dgetS (Q : VK) (x y : V) (H : Hp) : Prop := ∃ a v, x = .ref a ∧ DGet H a y (some v) ∧ Q v H
theorem dg_S {a : Addr} {o : Obj} {e : List (L2.Key × V)} (h : H a = some (.frz o (.dK e))) : DGet H a (.str k) (valV e (Sum.inr k)) := .inl ⟨e, Sum.inr k, .inr ⟨o, h⟩, rfl, rfl⟩
theorem dget_S {E : Er → Prop} {P : β → Prop} {Q : VK} (h : rDS r H d v) (hm : wp (getM d k) P E) (q : ∀ (x : β) (w : V), r H x w → P x → Q w H) : dgetS Q v (.str k) H := by
  obtain ⟨a, o, e, ev, h1, h3⟩ := h
  have z := atS_rel h3 k
  unfold getM at hm
  cases e1 : atM d k with
  | none => rw [e1] at hm; exact hm.elim
  | some x =>
    cases e2 : valV e (Sum.inr k) with
    | none => rw [e1, e2] at z; exact z.elim
    | some p =>
      rw [e1, e2] at z
      rw [e1] at hm
      exact ⟨a, p, ev, by rw [← e2]; exact dg_S h1, q x p z hm⟩
def dinS (neg : Bool) (Q : VK) (y x : V) (H : Hp) : Prop := ∃ a o, x = .ref a ∧ DGet H a y o ∧ Q (.bl (cond neg (!o.isSome) o.isSome)) H
theorem din_S {neg : Bool} {Q : VK} (h : rDS r H d v) (q : Q (.bl (cond neg (!(atM d k).isSome) (atM d k).isSome)) H) : dinS neg Q (.str k) v H := by
  obtain ⟨a, o, e, ev, h1, h3⟩ := h
  have z := atS_rel h3 k
  refine ⟨a, _, ev, dg_S h1, ?_⟩
  have y : (valV e (Sum.inr k)).isSome = (atM d k).isSome := by
    cases e1 : atM d k <;> cases e2 : valV e (Sum.inr k) <;> rw [e1, e2] at z
    · rfl
    · exact z.elim
    · exact z.elim
    · rfl
  rw [y]
  exact q
theorem fz_S [Imm r] {Q : VK} (h : LsS r H a d) (q : ∀ H2, Fz a H H2 → rDS r H2 d (.ref a) → Q (.ref a) H2) : frzA Q (.ref a) H := by
  obtain ⟨e, h1, h3⟩ := h
  have g : ∀ od, Im H (upd H a (.frz od (.dK e))) := fun od => Im.frz h1 (by show 2 ≠ 0; decide)
  exact ⟨a, _, rfl, h1, trivial, fun od => q _ ⟨g od, fun b o n hb => by rw [upd_ne n]; exact hb, by rw [upd_same]; intro z; cases z⟩ ⟨a, od, e, rfl, upd_same, EntS.im (g od) h3⟩⟩
variable {td ty : TE} {σ : L2.St} {Q : VK}
theorem rd_dgS (h : td σ H fun x H1 => ty σ H1 (dgetS Q x)) : tDGet td ty σ H Q := h
theorem rd_dnotin (h : ty σ H fun y H1 => td σ H1 (dinS true Q y)) : tDNotIn ty td σ H Q := h
theorem rd_din (h : ty σ H fun y H1 => td σ H1 (dinS false Q y)) : tDIn ty td σ H Q := h
end
/-! ### the walk of a comprehension -/
section
variable {α σt : Type} {J : It} {xs : List α} {G : Hp → Prop} {r : Rp α} {H0 H1 : Hp} {K : PySem.W.Frag} {g : TG} {tk tv : TE} {own : List Nat} {σ : L2.St} {D : Addr} {Qd : Hp → Prop} {E : Er → Prop} {s0 : σt}
theorem dc_R {o0 : HO} {put : Addr → (Hp → Prop) → V → V → Hp → Prop} (w : Wk J xs G r H0) {f : σt → α → R σt} {Z : σt → Prop} (rel : σt → Hp → Prop)
    (hm : wp (foldR f s0 xs) Z E) (h0 : rel s0 (upd H1 D o0)) (hG : ∀ s H, rel s H → G H ∧ ∃ A, Gr A H0 H)
    (hs : ∀ (x : α) (v : V) (s : σt) (H H' : Hp) (Nx : Hp → Prop), rel s H → Gr [] H H' → r H' x v → wp (f s x) (fun s' => ∀ H', rel s' H' → Nx H') E →
      g v (wipe σ own) H' fun σ2 H2 => wipe σ2 own = wipe σ own ∧ tk σ2 H2 fun y H4 => tv σ2 H4 fun z H5 => put D Nx y z H5)
    (hd : ∀ s H, rel s H → Z s → Qd H) :
    ∃ W : Nat → Nat → Hp → Prop, (∃ m, W 0 m (upd H1 D o0)) ∧ ∀ i m H, W i m H →
      (J.stop i H ∧ Qd H) ∨ (J.go i H ∧ ∃ Nx : Hp → Prop, (∀ H', Nx H' → ∃ m', m' < m ∧ W (i + 1) m' H') ∧ ∀ x H', J.yld i H x H' →
        g x (wipe σ own) H' fun σ2 H2 => wipe σ2 own = wipe σ own ∧ tk σ2 H2 fun y H4 => tv σ2 H4 fun z H5 => put D Nx y z H5) := by
  obtain ⟨Y, wa, hy⟩ := w
  refine ⟨fun i m H => m = xs.length - i ∧ i ≤ xs.length ∧ ∃ s, rel s H ∧ wp (foldR f s (xs.drop i)) Z E, ⟨xs.length, by simp, Nat.zero_le _, s0, h0, hm⟩, ?_⟩
  rintro i m H ⟨rfl, hi, s, hr, hw⟩
  obtain ⟨q, A, ga⟩ := hG s H hr
  by_cases hlt : i < xs.length
  · refine .inr ⟨wa.goes i H hlt q, fun H' => i + 1 ≤ xs.length ∧ ∃ s, rel s H' ∧ wp (foldR f s (xs.drop (i + 1))) Z E, fun H' ⟨hl, p⟩ => ⟨xs.length - (i + 1), by omega, rfl, hl, p⟩, fun v H' y => ?_⟩
    obtain ⟨x, hx, g', hv⟩ := hy A i H v H' ga hlt (wa.yields i H v H' hlt q y)
    have hw := foldR_step hlt hw
    have e : xs[i] = x := by rw [List.getElem?_eq_getElem hlt] at hx; exact Option.some.inj hx
    rw [e] at hw
    exact hs x v s H H' _ hr g' hv (wp_imp hw (fun s' hs' H' r' => ⟨hlt, s', r', hs'⟩) fun _ e => e)
  · have e : i = xs.length := by omega
    subst e
    exact .inl ⟨wa.stops H q, hd s H hr (foldR_end (Nat.le_refl _) hw)⟩
/-- the form that a printed text uses -/
theorem rd_dcD {wi : TI} {H : Hp} {Q : VK} {vs : List Nat} (h : wi σ H fun J H1 => ∀ D, H1 D = none → ∃ W : Nat → Nat → Hp → Prop, (∃ m, W 0 m (upd H1 D (DA D []))) ∧ ∀ i m H, W i m H →
    (J.stop i H ∧ Q (.ref D) H) ∨ (J.go i H ∧ ∃ Nx : Hp → Prop, (∀ H', Nx H' → ∃ m', m' < m ∧ W (i + 1) m' H') ∧ ∀ x H', J.yld i H x H' →
      g x (wipe σ vs) H' fun σ2 H2 => wipe σ2 vs = wipe σ vs ∧ tk σ2 H2 fun y H4 => tv σ2 H4 fun z H5 => dputA K D Nx y z H5)) : tDcA K wi g tk tv vs σ H Q := h
theorem rd_dcS {wi : TI} {H : Hp} {Q : VK} {vs : List Nat} (h : wi σ H fun J H1 => ∀ D, H1 D = none → ∃ W : Nat → Nat → Hp → Prop, (∃ m, W 0 m (upd H1 D (.dK []))) ∧ ∀ i m H, W i m H →
    (J.stop i H ∧ Q (.ref D) H) ∨ (J.go i H ∧ ∃ Nx : Hp → Prop, (∀ H', Nx H' → ∃ m', m' < m ∧ W (i + 1) m' H') ∧ ∀ x H', J.yld i H x H' →
      g x (wipe σ vs) H' fun σ2 H2 => wipe σ2 vs = wipe σ vs ∧ tk σ2 H2 fun y H4 => tv σ2 H4 fun z H5 => dputS D Nx y z H5)) : tDc wi g tYes tk tv vs σ H Q := h
theorem rd_dgD {td ty : TE} {H : Hp} {Q : VK} (h : td σ H fun x H1 => ty σ H1 (dgetA K Q x)) : tDGetA K td ty σ H Q := h
theorem u1 {n : Nat} (h : n + 64 < cLine) : n + 1 < cLine := by omega
theorem ins_neD {β : Type} {r : Rp β} {H : Hp} {a b C dx : Addr} {fs : List (Str × V)} {d : List (List Int × β)} (h : H a = some (.ins C dx fs)) (l : LsD K r H b d) : a ≠ b := fun e => by
  obtain ⟨_, h1, _⟩ := l
  rw [← e, h] at h1
  cases h1
theorem ins_neS {β : Type} {r : Rp β} {H : Hp} {a b C dx : Addr} {fs : List (Str × V)} {d : List (Str × β)} (h : H a = some (.ins C dx fs)) (l : LsS r H b d) : a ≠ b := fun e => by
  obtain ⟨_, h1, _⟩ := l
  rw [← e, h] at h1
  cases h1
theorem pe_fldK {X : Cx} {K : PySem.W.Frag} {e : Expr} {f : Str} {pos : Pos} {ta : TE} (eK : X.K = K) (he : PE X e ta) (hb : attributeBase e f X.env (eval e X.env) = eval e X.env) : PE X (.Attribute e f pos) (tFld K ta f) := eK ▸ pe_fld he hb
end
end Mir
set_option Elab.async false
set_option linter.all false
set_option maxRecDepth 100000
namespace Mir
open PySem PySem.Spec PyProof.Rows L2
variable [Nm]
/-! ### tests whose second part changes a list -/
def EvTA (t : TT) (σ : L2.St) (H : Hp) (p : Addr) (m : R (Bool × List Int)) (E : Er → Prop) : Prop := ∀ Q : Bool → Hp → Prop, wp m (fun c => ∀ H', Gr [p] H H' → Ls rI H' p c.2 → Q c.1 H') E → t σ H Q
section
variable {t u : TT} {σ : L2.St} {H : Hp} {E : Er → Prop} {m : R Bool} {n : R (Bool × List Int)} {p : Addr} {l : List Int}
def andA (l : List Int) (m : R Bool) (n : R (Bool × List Int)) : R (Bool × List Int) := m.bind fun b => if b = true then n else .ok (false, l)
def orA (l : List Int) (m : R Bool) (n : R (Bool × List Int)) : R (Bool × List Int) := m.bind fun b => if b = true then .ok (true, l) else n
theorem ev_andA (hl : Ls rI H p l) (h1 : EvT t σ H m E) (h2 : ∀ H', Gr [] H H' → EvTA u σ H' p n E) : EvTA (tAnd t u) σ H p (andA l m n) E := fun Q hw => h1 _ (wp_imp (wp_bind hw) (fun b hb H' g => by
  cases b with
  | true => exact iteT (h2 H' g Q (wp_imp hb (fun c hc H2 g2 hL => hc H2 (g.of0.at1 (by simp) g2) hL) fun _ e => e))
  | false => exact iteF (hb H' g.of0 (hl.g0 g))) fun _ e => e)
theorem ev_orA (hl : Ls rI H p l) (h1 : EvT t σ H m E) (h2 : ∀ H', Gr [] H H' → EvTA u σ H' p n E) : EvTA (tOr t u) σ H p (orA l m n) E := fun Q hw => h1 _ (wp_imp (wp_bind hw) (fun b hb H' g => by
  cases b with
  | true => exact iteT (hb H' g.of0 (hl.g0 g))
  | false => exact iteF (h2 H' g Q (wp_imp hb (fun c hc H2 g2 hL => hc H2 (g.of0.at1 (by simp) g2) hL) fun _ e => e))) fun _ e => e)
end
/-! ### what is not None -/
theorem unO_R {α : Type} {r : Rp α} {H : Hp} {o : Option α} {v : V} {Z : α → Prop} {E : Er → Prop} (h : rO r H o v) (hm : wp (unO o) Z E) : ∃ x, r H x v ∧ Z x := by
  cases o with
  | none => exact hm.elim
  | some x => exact ⟨x, h.2, hm⟩
/-! ### rows that are tuples or lists that stand still -/
section
variable {α : Type} {r : Rp α} {K : PySem.W.Frag} {H : Hp} {a : Addr} {v : V} {xs : List α} {xss : List (List α)} {E : Er → Prop} {Q : VK}
def rQ (K : PySem.W.Frag) (r : Rp α) : Rp (List α) := fun H xs v => rT K r H xs v ∨ rZ r H xs v
instance [Imm r] : Imm (rQ K r) := ⟨fun g h => h.elim (fun h => .inl (Imm.im g h)) fun h => .inr (Imm.im g h)⟩
theorem rQ_T (h : rT K r H xs v) : rQ K r H xs v := .inl h
theorem rQ_Z (h : rZ r H xs v) : rQ K r H xs v := .inr h
theorem Ls.cQT (h : Ls (rT K r) H a xss) : Ls (rQ K r) H a xss := let ⟨vs, h1, h2⟩ := h; ⟨vs, h1, Paired.mapP h2 fun _ _ q => .inl q⟩
theorem Ls.cQZ (h : Ls (rZ r) H a xss) : Ls (rQ K r) H a xss := let ⟨vs, h1, h2⟩ := h; ⟨vs, h1, Paired.mapP h2 fun _ _ q => .inr q⟩
theorem ix_Q {i : Int} {Z : α → Prop} (h : rQ K r H xs v) (hm : wp (getL xs i) Z E) (q : ∀ x v, r H x v → Z x → Q v H) : rIx K v (.int i) H Q := by
  rcases h with h | h
  · exact .inr (.inl (ix_T h hm q))
  · obtain ⟨b, e, hb⟩ := rZ_q (K := K) h
    subst e
    exact .inl (ix_L hb hm q)
theorem ix_seqK {X : Cx} (e : X.K = K) : IxR X (rIx K) := e ▸ ix_seq
end
/-! ### min of two, int of a truth value -/
section
variable {H : Hp} {Q : VK} {i j : Int} {b : Bool}
def pmin (i j : Int) : Int := if j < i then j else i
theorem rd_min (q : Q (.int (pmin i j)) H) : ap3 (fun xs H Q => ∃ i j, xs = [.int i, .int j] ∧ Q (.int (if j < i then j else i)) H) [.int i, .int j] H Q := ⟨i, j, rfl, q⟩
def pint (b : Bool) : Int := if b then 1 else 0
theorem rd_intB (q : Q (.int (pint b)) H) : ap3 (fun xs H Q => (∃ i, xs = [.int i] ∧ Q (.int i) H) ∨ ∃ k, xs = [.bl k] ∧ Q (.int (if k then 1 else 0)) H) [.bl b] H Q := .inr ⟨b, rfl, q⟩
end
end Mir
set_option Elab.async false
set_option linter.all false
set_option maxRecDepth 100000
set_option maxHeartbeats 2000000
namespace GenS
open PySem PySem.Spec PyProof.Rows L2 GenW
open Sem (wp)

/-! ### who sleeps through a run that doesn't wake him is there behind it -/
/-- a sleeper that no run can wake -/
def numb : GenState → GenState
  | .suspended _ l c p fs cl => .suspended (fun _ => .unsupported "") l c p fs cl
  | x => x
def sleeps : GenState → Bool
  | .suspended .. => true
  | _ => false
theorem numb_seen (x : GenState) : (numb x).seen = x.seen := by cases x <;> rfl
theorem numb_bare (x : GenState) : (numb x).bare = x.bare := by cases x <;> rfl
theorem no_runs {M : Model} {Γ : PySem.Ctx} {p : Pos} {t : Sem PySem.Fin} {fs : List Frame} {s s' : Shared} {e : End} {u : String} (h : Runs M Γ p t fs s e s') (ht : t = .unsupported u) : False := by
  induction h <;> first | (cases ht; done) | (rename_i ih _; exact ih ht) | (rename_i ih; exact ih ht) | skip
  all_goals (rename_i ih1 _; first | exact ih1 ht | skip)
theorem split_ret {k : Result → Sem PySem.Fin} {h : Option Value} {g : Bool} {l kp : List Value} {c : Code} {p : Pos} {fs : List Frame} : splitAtGen (.ret k h g l c p kp :: fs) = none ↔ splitAtGen fs = none := by
  show (splitAtGen fs).map _ = none ↔ _
  cases splitAtGen fs <;> simp
theorem split_cons {F : Frame} {fs : List Frame} (h : splitAtGen (F :: fs) = none) : splitAtGen fs = none := by
  cases F with
  | ret k h' g l c p kp => exact split_ret.mp h
  | gen g k l c p => cases h
theorem split_app : ∀ {a b : List Frame}, splitAtGen a = none → splitAtGen b = none → splitAtGen (a ++ b) = none
  | [], _, _, hb => hb
  | .gen g k l c p :: a, _, ha, _ => by cases ha
  | .ret k h g l c p kp :: a, b, ha, hb => split_ret.mpr (split_app (split_ret.mp ha) hb)
theorem ret_susp {r : Result} : ∀ v g l k c p fs, End.ret r = .susp v g l k c p fs → splitAtGen fs = none := fun _ _ _ _ _ _ _ h => End.noConfusion h
theorem fresh_susp {x : Code} : ∀ k l c p fs cl, GenState.fresh x ≠ .suspended k l c p fs cl := fun _ _ _ _ _ _ h => GenState.noConfusion h
theorem run_susp : ∀ k l c p fs cl, GenState.running ≠ .suspended k l c p fs cl := fun _ _ _ _ _ _ h => GenState.noConfusion h
theorem fin_susp : ∀ k l c p fs cl, GenState.finished ≠ .suspended k l c p fs cl := fun _ _ _ _ _ _ h => GenState.noConfusion h
theorem run_spl : ∀ k l c p fs cl, GenState.running = .suspended k l c p fs cl → splitAtGen fs = none := fun _ _ _ _ _ _ h => GenState.noConfusion h
theorem fin_spl : ∀ k l c p fs cl, GenState.finished = .suspended k l c p fs cl → splitAtGen fs = none := fun _ _ _ _ _ _ h => GenState.noConfusion h
/-- the sleepers of T put in their places -/
def put (T : Nat → Option GenState) (s : Shared) : Shared := { s with gens := s.gens.mapIdx fun i x => (T i).getD x }
structure Numbed (T : Nat → Option GenState) (s : Shared) : Prop where
  old : ∀ i st, T i = some st → s.gens[i]? = some (numb st) ∧ sleeps st = true
  new : ∀ i k l c p fs cl, T i = none → s.gens[i]? = some (.suspended k l c p fs cl) → splitAtGen fs = none
section
variable {T : Nat → Option GenState} {s s' : Shared} {M : Model} {Γ : PySem.Ctx}
theorem put_get {i : Nat} : (put T s).gens[i]? = s.gens[i]?.map fun x => (T i).getD x := by
  show (s.gens.mapIdx _)[i]? = _
  rw [Array.getElem?_mapIdx]
theorem put_size : (put T s).gens.size = s.gens.size := Array.size_mapIdx ..
theorem put_free {g : Nat} {st : GenState} (N : Numbed T s) (h : s.gens[g]? = some st) (hn : ∀ k l c p fs cl, st ≠ .suspended k l c p fs cl) : T g = none := by
  cases e : T g with
  | none => rfl
  | some x =>
    obtain ⟨h1, h2⟩ := N.old g x e
    rw [h] at h1
    cases x with
    | suspended k l c p fs cl => exact absurd (Option.some.inj h1) (hn _ _ _ _ _ _)
    | fresh c => cases h2
    | running => cases h2
    | finished => cases h2
theorem put_at {g : Nat} {st : GenState} (h : s.gens[g]? = some st) (f : T g = none) : (put T s).gens[g]? = some st := by
  rw [put_get, h, f]; rfl
theorem put_set {g : Nat} {x : GenState} (f : T g = none) : put T (s.setGen g x) = (put T s).setGen g x := by
  show ({ s with gens := _ } : Shared) = { s with gens := _ }
  congr 1
  apply Array.ext_getElem?
  intro i
  show ((s.gens.setIfInBounds g x).mapIdx _)[i]? = ((s.gens.mapIdx _).setIfInBounds g x)[i]?
  rw [Array.getElem?_mapIdx, Array.getElem?_setIfInBounds, Array.getElem?_setIfInBounds, Array.size_mapIdx]
  by_cases z : g = i
  · subst z
    rw [if_pos rfl, if_pos rfl]
    by_cases q : g < s.gens.size
    · rw [if_pos q, f]; rfl
    · rw [if_neg q]; rfl
  · rw [if_neg z, if_neg z, Array.getElem?_mapIdx]
theorem Numbed.set {g : Nat} {x : GenState} (N : Numbed T s) (f : T g = none) (hx : ∀ k l c p fs cl, x = .suspended k l c p fs cl → splitAtGen fs = none) : Numbed T (s.setGen g x) where
  old := fun i st e => by
    have hi : g ≠ i := fun z => by rw [z, e] at f; cases f
    refine ⟨?_, (N.old i st e).2⟩
    show (s.gens.setIfInBounds g x)[i]? = _
    rw [Array.getElem?_setIfInBounds, if_neg hi]
    exact (N.old i st e).1
  new := fun i k l c p fs cl e h => by
    have h : (s.gens.setIfInBounds g x)[i]? = some (.suspended k l c p fs cl) := h
    rw [Array.getElem?_setIfInBounds] at h
    by_cases z : g = i
    · rw [if_pos z] at h
      split at h
      · exact hx _ _ _ _ _ _ (Option.some.inj h)
      · cases h
    · rw [if_neg z] at h
      exact N.new i k l c p fs cl e h
theorem Numbed.push {c : Code} (N : Numbed T s) : Numbed T { s with gens := s.gens.push (.fresh c) } ∧ T s.gens.size = none := by
  have f : T s.gens.size = none := by
    cases e : T s.gens.size with
    | none => rfl
    | some x =>
      have := (N.old _ x e).1
      rw [Array.getElem?_eq_none (Nat.le_refl _)] at this
      cases this
  refine ⟨⟨fun i st e => ?_, fun i k l cc p fs cl e h => ?_⟩, f⟩
  · obtain ⟨h1, h2⟩ := N.old i st e
    have hi : i < s.gens.size := by
      rcases Nat.lt_or_ge i s.gens.size with z | z
      · exact z
      · rw [Array.getElem?_eq_none z] at h1; cases h1
    refine ⟨?_, h2⟩
    show (s.gens.push _)[i]? = _
    rw [Array.getElem?_push, if_neg (Nat.ne_of_lt hi)]
    exact h1
  · have h : (s.gens.push (.fresh c))[i]? = some (.suspended k l cc p fs cl) := h
    rw [Array.getElem?_push] at h
    split at h
    · cases h
    · exact N.new i k l cc p fs cl e h
theorem put_push {c : Code} (f : T s.gens.size = none) : put T { s with gens := s.gens.push (.fresh c) } = { put T s with gens := (put T s).gens.push (.fresh c) } := by
  show ({ s with gens := _ } : Shared) = { s with gens := _ }
  congr 1
  apply Array.ext_getElem?
  intro i
  show ((s.gens.push _).mapIdx _)[i]? = ((s.gens.mapIdx _).push _)[i]?
  rw [Array.getElem?_mapIdx, Array.getElem?_push, Array.getElem?_push, Array.size_mapIdx]
  by_cases z : i = s.gens.size
  · subst z; rw [if_pos rfl, if_pos rfl, f]; rfl
  · rw [if_neg z, if_neg z, Array.getElem?_mapIdx]
theorem Numbed.heap {h : Heap} (N : Numbed T s) : Numbed T { s with heap := h } := ⟨N.old, N.new⟩
theorem end_split {e : End} (h : ∀ v g l k c p fs, e = .susp v g l k c p fs → splitAtGen fs = none) : ∀ k l c p fs cl, e.genState = .suspended k l c p fs cl → splitAtGen fs = none := by
  intro k l c p fs cl q
  cases e with
  | ret r => cases q
  | susp v g l' k' c' p' fs' =>
    cases q
    exact h _ _ _ _ _ _ _ rfl
theorem getD_seen {g : Nat} {st : GenState} (N : Numbed T s) (q : s.gens[g]? = some st) : ((T g).getD st).seen = st.seen := by
  cases e : T g with
  | none => rfl
  | some x =>
    have h1 := (N.old g x e).1
    rw [q] at h1
    rw [Option.some.inj h1, numb_seen]
    rfl
theorem runs_put {p : Pos} {t : Sem PySem.Fin} {fs : List Frame} {e : End} (h : Runs M Γ p t fs s e s') : Numbed T s → splitAtGen fs = none →
    Runs M Γ p t fs (put T s) e (put T s') ∧ Numbed T s' ∧ ∀ v g l k c p fs', e = .susp v g l k c p fs' → splitAtGen fs' = none := by
  induction h with
  | done => exact fun N _ => ⟨.done, N, ret_susp⟩
  | raise => exact fun N _ => ⟨.raise, N, ret_susp⟩
  | again q _ ih => exact fun N f => let ⟨a, b⟩ := ih N f; ⟨.again q a, b⟩
  | rule _ ih => exact fun N f => let ⟨a, b⟩ := ih N f; ⟨.rule a, b⟩
  | «at» _ ih => exact fun N f => let ⟨a, b⟩ := ih N f; ⟨.at a, b⟩
  | load q _ ih => exact fun N f => let ⟨a, b⟩ := ih N f; ⟨.load q a, b⟩
  | update q _ ih => exact fun N f => let ⟨a, b⟩ := ih ⟨N.old, N.new⟩ f; ⟨.update q a, b⟩
  | loadIfAlive _ ih => exact fun N f => let ⟨a, b⟩ := ih N f; ⟨.loadIfAlive a, b⟩
  | point _ ih => exact fun N f => let ⟨a, b⟩ := ih N f; ⟨.point a, b⟩
  | alloc _ ih => exact fun N f => let ⟨a, b⟩ := ih ⟨N.old, N.new⟩ f; ⟨.alloc a, b⟩
  | fresh _ ih => exact fun N f => let ⟨a, b⟩ := ih ⟨N.old, N.new⟩ f; ⟨.fresh a, b⟩
  | ask _ ih => exact fun N f => let ⟨a, b⟩ := ih N f; ⟨.ask a, b⟩
  | choose q _ ih => exact fun N f => let ⟨a, b⟩ := ih ⟨N.old, N.new⟩ f; ⟨.choose q a, b⟩
  | os _ ih => exact fun N f => let ⟨a, b⟩ := ih ⟨N.old, N.new⟩ f; ⟨.os a, b⟩
  | handled _ ih => exact fun N f => let ⟨a, b⟩ := ih N f; ⟨.handled a, b⟩
  | genState q _ ih =>
    intro N f
    obtain ⟨a, b⟩ := ih N f
    rw [← getD_seen N q] at a
    exact ⟨.genState (by rw [put_get, q]; rfl) a, b⟩
  | stack _ ih => exact fun N f => let ⟨a, b⟩ := ih N f; ⟨.stack a, b⟩
  | thread _ ih => exact fun N f => let ⟨a, b⟩ := ih N f; ⟨.thread a, b⟩
  | newGen _ ih =>
    intro N f
    obtain ⟨N2, fr⟩ := N.push
    obtain ⟨a, b⟩ := ih N2 f
    rw [put_push fr] at a
    refine ⟨.newGen ?_, b⟩
    rw [put_size]
    exact a
  | call _ _ ih1 ih2 =>
    intro N f
    obtain ⟨a, b, _⟩ := ih1 N rfl
    obtain ⟨a2, b2⟩ := ih2 b rfl
    exact ⟨.call a a2, b2⟩
  | callSusp _ ih =>
    intro N f
    obtain ⟨a, b, c⟩ := ih N rfl
    refine ⟨.callSusp a, b, fun v g l k cc p fs' q => ?_⟩
    cases q
    exact split_app (c _ _ _ _ _ _ _ rfl) (split_ret.mpr rfl)
  | yield => exact fun N f => ⟨.yield, N, fun v g l k c p fs' q => by cases q; rfl⟩
  | resumeFresh q _ q2 _ ih1 ih2 =>
    intro N f
    have fr := put_free N q fresh_susp
    obtain ⟨a, b, c⟩ := ih1 (N.set fr run_spl) rfl
    rw [put_set fr] at a
    obtain ⟨a2, b2⟩ := ih2 (b.set fr (end_split c)) f
    rw [put_set fr] at a2
    exact ⟨.resumeFresh (put_at q fr) a q2 a2, b2⟩
  | @resumeSuspended Γ p g r l k s k₀ l₀ c₀ p₀ fs₀ cl e₁ s₁ e s' q r1 q2 _ ih1 ih2 =>
    intro N f
    have fr : T g = none := by
      cases e : T g with
      | none => rfl
      | some x =>
        obtain ⟨h1, h2⟩ := N.old g x e
        rw [q] at h1
        cases x with
        | suspended k l c p fs cl =>
          have h1 := Option.some.inj h1
          unfold numb at h1
          injection h1 with h3
          exact (no_runs r1 (congrFun h3 r)).elim
        | fresh c => cases h2
        | running => cases h2
        | finished => cases h2
    obtain ⟨a, b, c⟩ := ih1 (N.set fr run_spl) (N.new g _ _ _ _ _ _ fr q)
    rw [put_set fr] at a
    obtain ⟨a2, b2⟩ := ih2 (b.set fr (end_split c)) f
    rw [put_set fr] at a2
    exact ⟨.resumeSuspended (put_at q fr) a q2 a2, b2⟩
  | resumeJustStarted q q2 _ ih =>
    intro N f
    obtain ⟨a, b⟩ := ih N f
    exact ⟨.resumeJustStarted (put_at q (put_free N q fresh_susp)) q2 a, b⟩
  | resumeThrowFresh q _ ih =>
    intro N f
    have fr := put_free N q fresh_susp
    obtain ⟨a, b⟩ := ih (N.set fr fin_spl) f
    rw [put_set fr] at a
    exact ⟨.resumeThrowFresh (put_at q fr) a, b⟩
  | resumeRunning q _ ih =>
    intro N f
    obtain ⟨a, b⟩ := ih N f
    exact ⟨.resumeRunning (put_at q (put_free N q run_susp)) a, b⟩
  | resumeFinished q _ ih =>
    intro N f
    obtain ⟨a, b⟩ := ih N f
    exact ⟨.resumeFinished (put_at q (put_free N q fin_susp)) a, b⟩
  | segRet _ _ ih1 ih2 =>
    intro N f
    obtain ⟨a, b, _⟩ := ih1 N rfl
    obtain ⟨a2, b2⟩ := ih2 b (split_cons f)
    exact ⟨.segRet a a2, b2⟩
  | segGen _ _ _ _ => exact fun N f => by cases f
  | segSuspOut q _ ih =>
    intro N f
    obtain ⟨a, b, c⟩ := ih N rfl
    refine ⟨.segSuspOut q a, b, fun v g l k cc p fs' z => ?_⟩
    cases z
    exact split_app (c _ _ _ _ _ _ _ rfl) f
  | segSuspGen q _ _ _ _ _ => exact fun N f => by rw [f] at q; cases q
theorem wakes_put {p : Pos} {g : Nat} {r : Resume} {res : GenResult} (h : Wakes M Γ p g r s res s') (N : Numbed T s) : Wakes M Γ p g r (put T s) res (put T s') ∧ Numbed T s' := by
  unfold Wakes at h
  cases q : s.gens[g]? with
  | none => rw [q] at h; exact h.elim
  | some st =>
    rw [q] at h
    cases st with
    | fresh c =>
      have fr := put_free N q fresh_susp
      unfold Wakes
      rw [put_at q fr]
      cases r with
      | throw x =>
        obtain ⟨h1, h2⟩ := h
        subst h2
        exact ⟨⟨h1, put_set fr⟩, N.set fr fin_spl⟩
      | send v =>
        by_cases z : v = .none
        · subst z
          obtain ⟨e₁, s₁, h1, h2, h3, h4⟩ := h
          subst h4
          obtain ⟨a, b, c⟩ := runs_put h1 (N.set fr run_spl) rfl
          rw [put_set fr] at a
          exact ⟨⟨e₁, put T s₁, a, h2, h3, put_set fr⟩, b.set fr (end_split c)⟩
        · have h : res = .justStarted ∧ s' = s := by
            cases v <;> first | exact h | exact absurd rfl z
          obtain ⟨h1, h2⟩ := h
          subst h2
          refine ⟨?_, N⟩
          cases v <;> first | exact ⟨h1, rfl⟩ | exact absurd rfl z
    | suspended k₀ l₀ c₀ p₀ fs cl =>
      obtain ⟨e₁, s₁, h1, h2, h3, h4⟩ := h
      subst h4
      have fr : T g = none := by
        cases e : T g with
        | none => rfl
        | some x =>
          obtain ⟨z1, z2⟩ := N.old g x e
          rw [q] at z1
          cases x with
          | suspended k l c p fs cl =>
            have z1 := Option.some.inj z1
            unfold numb at z1
            injection z1 with z3
            exact (no_runs h1 (congrFun z3 r)).elim
          | fresh c => cases z2
          | running => cases z2
          | finished => cases z2
      unfold Wakes
      rw [put_at q fr]
      obtain ⟨a, b, c⟩ := runs_put h1 (N.set fr run_spl) (N.new g _ _ _ _ _ _ fr q)
      rw [put_set fr] at a
      exact ⟨⟨e₁, put T s₁, a, h2, h3, put_set fr⟩, b.set fr (end_split c)⟩
    | running =>
      obtain ⟨h1, h2⟩ := h
      subst h2
      unfold Wakes
      rw [put_at q (put_free N q run_susp)]
      exact ⟨⟨h1, rfl⟩, N⟩
    | finished =>
      obtain ⟨h1, h2⟩ := h
      subst h2
      unfold Wakes
      rw [put_at q (put_free N q fin_susp)]
      exact ⟨⟨h1, rfl⟩, N⟩
theorem wp_put {α : Type} (t : Sem α) : ∀ (Q : α → Pos → Shared → Prop) (E : Value → Pos → Shared → Prop) (p : Pos) (s : Shared), Numbed T s → wp M Γ t Q E p s →
    wp M Γ t (fun a p' s' => ∃ s1, s' = put T s1 ∧ Numbed T s1 ∧ Q a p' s1) (fun e p' s' => ∃ s1, s' = put T s1 ∧ Numbed T s1 ∧ E e p' s1) p (put T s) := by
  induction t with
  | pure a => intro Q E p s N h; exact ⟨s, rfl, N, h⟩
  | raise e => intro Q E p s N h; exact ⟨s, rfl, N, h⟩
  | unsupported _ => intro Q E p s _ h; exact h
  | finish _ => intro Q E p s _ h; exact h
  | rule _ k ih => intro Q E p s N h; exact ih () Q E p s N h
  | «at» p' k ih => intro Q E p s N h; exact ih () Q E p' s N h
  | load a _ k ih => intro Q E p s N h; obtain ⟨o, ho, h⟩ := h; exact ⟨o, ho, ih o Q E p s N h⟩
  | update a _ f k ih => intro Q E p s N h; exact ⟨h.1, ih () Q E p { s with heap := s.heap.update a f } ⟨N.old, N.new⟩ h.2⟩
  | loadIfAlive a k ih => intro Q E p s N h; exact ih _ Q E p s N h
  | point _ k ih => intro Q E p s N h; exact ih () Q E p s N h
  | register _ _ => intro Q E p s _ h; exact h
  | alloc o k ih => intro Q E p s N h; exact ih _ Q E p { s with heap := s.heap.push o } ⟨N.old, N.new⟩ h
  | fresh k ih => intro Q E p s N h; exact ih _ Q E p { s with toks := s.toks + 1 } ⟨N.old, N.new⟩ h
  | ask k ih => intro Q E p s N h; exact ih _ Q E p s N h
  | choose src m k ih => intro Q E p s N h; exact ⟨h.1, ih _ Q E p { s with drawn := s.drawn.bump src } ⟨N.old, N.new⟩ h.2⟩
  | os q _ k ih => intro Q E p s N h; exact ih _ Q E p { s with os := (Os.step s.os q).1 } ⟨N.old, N.new⟩ h
  | call c hd _ _ k ih =>
    intro Q E p s N h
    obtain ⟨r, s', hr, h⟩ := h
    obtain ⟨a, b, _⟩ := runs_put hr N rfl
    exact ⟨r, put T s', a, ih r Q E p s' b h⟩
  | handled own k ih => intro Q E p s N h; exact ih _ Q E p s N h
  | genState g k ih =>
    intro Q E p s N h
    obtain ⟨st, hs, h⟩ := h
    refine ⟨(T g).getD st, by rw [put_get, hs]; rfl, ?_⟩
    have e2 := getD_seen N hs
    rw [e2]
    exact ih _ Q E p s N h
  | newGen c k ih =>
    intro Q E p s N h
    obtain ⟨N2, fr⟩ := N.push (c := c)
    have := ih _ Q E p _ N2 h
    rw [put_push fr] at this
    show wp M Γ (k (put T s).gens.size) _ _ _ _
    rw [put_size]
    exact this
  | resume g r _ k ih =>
    intro Q E p s N h
    obtain ⟨res, s', hw, h⟩ := h
    obtain ⟨a, b⟩ := wakes_put hw N
    exact ⟨res, put T s', a, ih res Q E p s' b h⟩
  | yield _ _ _ _ => intro Q E p s _ h; exact h
  | stack k ih => intro Q E p s N h; exact ih _ Q E p s N h
  | fork _ _ => intro Q E p s _ h; exact h
  | thread k ih => intro Q E p s N h; exact ih _ Q E p s N h
  | await _ _ _ _ _ => intro Q E p s _ h; exact h
end
/-- all sleepers numbed -/
def numbed (s : Shared) : Shared := { s with gens := s.gens.map numb }
theorem allBare_numbed {s : Shared} (h : AllBare s.gens) : AllBare (numbed s).gens := fun y hy => by
  obtain ⟨x, hx, e⟩ := Array.mem_map.mp hy
  rw [← e, numb_bare]
  exact h x hx
/-- what a run from the numbed state gives, a run from the state itself gives too; who slept sleeps as he did -/
theorem wpAny_asleep {α : Type} {M : Model} {A : Around} {t : Sem α} {Q : α → Shared → Prop} {E : Value → Shared → Prop} {s : Shared} (h : wpAny M A t Q E (numbed s)) :
    wpAny M A t (fun a s' => ∃ s1, Q a s1 ∧ s' = { s1 with gens := s'.gens } ∧ (AllBare s.gens → AllBare s1.gens → AllBare s'.gens) ∧ ∀ (g : Nat) (st : GenState), s.gens[g]? = some st → sleeps st = true → s'.gens[g]? = some st)
      (fun e s' => ∃ s1, E e s1 ∧ s' = { s1 with gens := s'.gens } ∧ (AllBare s.gens → AllBare s1.gens → AllBare s'.gens) ∧ ∀ (g : Nat) (st : GenState), s.gens[g]? = some st → sleeps st = true → s'.gens[g]? = some st) s := by
  intro Γ p hΓ
  let T : Nat → Option GenState := fun i => s.gens[i]?.filter sleeps
  have hT : ∀ i st, T i = some st → s.gens[i]? = some st ∧ sleeps st = true := fun i st e => Option.filter_eq_some_iff.mp e
  have N : Numbed T (numbed s) := by
    refine ⟨fun i st e => ?_, fun i k l c p fs cl e q => ?_⟩
    · obtain ⟨h1, h2⟩ := hT i st e
      refine ⟨?_, h2⟩
      show (s.gens.map numb)[i]? = _
      rw [Array.getElem?_map, h1]; rfl
    · have q : (s.gens.map numb)[i]? = _ := q
      rw [Array.getElem?_map] at q
      cases z : s.gens[i]? with
      | none => rw [z] at q; cases q
      | some x =>
        rw [z] at q
        have q := Option.some.inj q
        have e : s.gens[i]?.filter sleeps = none := e
        rw [z] at e
        cases x with
        | suspended k l c p fs cl => cases e
        | fresh c => cases q
        | running => cases q
        | finished => cases q
  have es : put T (numbed s) = s := by
    show ({ s with gens := _ } : Shared) = { s with gens := s.gens }
    congr 1
    apply Array.ext_getElem?
    intro i
    show ((s.gens.map numb).mapIdx _)[i]? = _
    rw [Array.getElem?_mapIdx, Array.getElem?_map]
    cases z : s.gens[i]? with
    | none => rfl
    | some x =>
      show some ((s.gens[i]?.filter sleeps).getD (numb x)) = some x
      rw [z]
      cases x <;> rfl
  have fin : ∀ s1, Numbed T s1 → put T s1 = { s1 with gens := (put T s1).gens } ∧ (AllBare s.gens → AllBare s1.gens → AllBare (put T s1).gens) ∧ ∀ (g : Nat) (st : GenState), s.gens[g]? = some st → sleeps st = true → (put T s1).gens[g]? = some st := by
    intro s1 N1
    refine ⟨rfl, fun b0 b1 x hx => ?_, fun g st q z => ?_⟩
    · obtain ⟨i, hi, e⟩ := Array.mem_iff_getElem.mp hx
      have e2 : (put T s1).gens[i]? = some x := by rw [Array.getElem?_eq_getElem hi, e]
      rw [put_get] at e2
      cases z : s1.gens[i]? with
      | none => rw [z] at e2; cases e2
      | some y =>
        rw [z] at e2
        have e2 : (T i).getD y = x := Option.some.inj e2
        cases q : T i with
        | none => rw [q] at e2; exact e2 ▸ b1 y (Array.mem_of_getElem? z)
        | some u =>
          rw [q] at e2
          have e2 : u = x := e2
          exact e2 ▸ b0 u (Array.mem_of_getElem? (hT i u q).1)
    · have e : T g = some st := Option.filter_eq_some_iff.mpr ⟨q, z⟩
      rw [put_get, (N1.old g st e).1, e]; rfl
  have r := wp_put (T := T) t _ _ p (numbed s) N (h Γ p hΓ)
  rw [es] at r
  refine Sem.wp_mono _ _ _ (fun a p' s' z => ?_) (fun e p' s' z => ?_) _ _ r
  · obtain ⟨s1, e1, N1, q⟩ := z
    rw [e1]
    exact ⟨s1, q, fin s1 N1⟩
  · obtain ⟨s1, e1, N1, q⟩ := z
    rw [e1]
    exact ⟨s1, q, fin s1 N1⟩
end GenS
set_option Elab.async false
set_option linter.all false
set_option maxRecDepth 100000
set_option maxHeartbeats 2000000
namespace GenS
open PySem PySem.Spec PyProof.Rows L2 GenW

/-! ### a piece of a run, by its end -/
def Go (M : Model) (A : Around) (Φ : End → Shared → Prop) (c : Code) (t : Sem PySem.Fin) (fs : List Frame) (s : Shared) : Prop :=
  ∀ (Γ : PySem.Ctx) (p : Pos), Γ.code = c → Γ.Woken A → ∃ e s', Runs M Γ p t fs s e s' ∧ Φ e s'
section
variable {M : Model} {A : Around} {Φ Ψ : End → Shared → Prop} {c : Code} {fs : List Frame} {s : Shared}
theorem Go.imp {t : Sem PySem.Fin} (h : Go M A Φ c t fs s) (q : ∀ e s', Φ e s' → Ψ e s') : Go M A Ψ c t fs s := fun Γ p hc hΓ =>
  let ⟨e, s', r, z⟩ := h Γ p hc hΓ
  ⟨e, s', r, q e s' z⟩
theorem go_wrap {α : Type} {m : Sem α} {K : α → Sem PySem.Fin} {J : Value → Sem PySem.Fin} {gd : Bool → Bool} {lv : List Value → List Value}
    (h : wpAny M (A.over c fs) m (fun a s1 => Go M A Φ c (K a) fs s1) (fun x s1 => Go M A Φ c (J x) fs s1) s) : Go M A Φ c (m.wrap K J gd lv) fs s := by
  intro Γ p hc hΓ
  subst hc
  have z := h (Γ.over fs) p (hΓ.over fs)
  exact runs_wrap_of_wp K J gd lv m z (fun _ p1 _ q => q Γ p1 rfl hΓ) fun _ p1 _ q => q Γ p1 rfl hΓ
theorem go_bind {α : Type} {m : Sem α} {K : α → Sem PySem.Fin} (h : wpAny M (A.over c fs) m (fun a s1 => Go M A Φ c (K a) fs s1) (fun x s1 => Go M A Φ c (.raise x) fs s1) s) :
    Go M A Φ c (m >>= K) fs s := by
  rw [Sem.bind_eq_wrap']
  exact go_wrap h
theorem go_at {p1 : Pos} {k : Unit → Sem PySem.Fin} (h : Go M A Φ c (k ()) fs s) : Go M A Φ c (.at p1 k) fs s :=
  go_wrap (m := standAt p1) (K := k) (J := .raise) (gd := id) (lv := id) (wpAny_standAt h)
theorem go_point {l : List Value} {k : Unit → Sem PySem.Fin} (h : Go M A Φ c (k ()) fs s) : Go M A Φ c (.point l k) fs s :=
  go_wrap (m := point) (K := k) (J := .raise) (gd := id) (lv := fun _ => l) (wpAny_point h)
theorem go_call {c1 : Code} {h g l} {k : Result → Sem PySem.Fin} (q : ∀ p, Go M A Φ c1 (M.den c1) (.ret k h g l c p [] :: fs) s) : Go M A Φ c (.call c1 h g l k) fs s := by
  intro Γ p hc hΓ
  subst hc
  have z := q p (Γ.goto c1) p rfl (hΓ.goto c1)
  exact z.imp fun _ z => z.imp fun _ z => ⟨runs_call_seg z.1, z.2⟩
theorem go_leaf {k h g l c1 p1 kp} (r : Result) (q : Go M A Φ c1 (k r) fs s) : Go M A Φ c (leafOf r) (.ret k h g l c1 p1 kp :: fs) s := by
  intro Γ p hc hΓ
  subst hc
  have z := q (Γ.goto c1) p1 rfl (hΓ.goto c1)
  exact z.imp fun _ z => z.imp fun _ z => ⟨Runs.pop r z.1, z.2⟩
theorem go_again {c1 : Code} (hq : c1.quiet = true) (q : Go M A Φ c1 (M.den c1) fs s) : Go M A Φ c (.pure (.again c1)) fs s := by
  intro Γ p hc hΓ
  subst hc
  have z := q (Γ.goto c1) p rfl (hΓ.goto c1)
  exact z.imp fun _ z => z.imp fun _ z => ⟨Runs.head (c₁ := c1) (fun _ _ x => .again hq x) z.1, z.2⟩
theorem go_end (r : Result) (h : Φ (.ret r) s) : Go M A Φ c (leafOf r) [] s := fun _ _ _ _ => ⟨.ret r, s, Runs.leaf r, h⟩
theorem go_yield {v : Value} {g : Bool} {l : List Value} {k : Resume → Sem PySem.Fin} (hfs : splitAtGen fs = none) (h : ∀ p, Φ (.susp v g l k c p fs) s) : Go M A Φ c (.yield v g l k) fs s := by
  intro Γ p hc _
  subst hc
  exact ⟨_, s, Runs.yield' fs hfs, h p⟩
end

/-! ### the turns of «yield from» a tuple -/
/-- but for what stands at it, the heap is as it was -/
def Kept (it : Addr) (s s' : Shared) : Prop := ∃ h' tk, s' = { s with heap := h', toks := tk } ∧ ∀ b o, b ≠ it → s.heap.get? b = some o → h'.get? b = some o
theorem Kept.trans {it : Addr} {s s1 s2 : Shared} (a : Kept it s s1) (b : Kept it s1 s2) : Kept it s s2 := by
  obtain ⟨h1, t1, rfl, k1⟩ := a
  obtain ⟨h2, t2, rfl, k2⟩ := b
  exact ⟨h2, t2, rfl, fun b o n e => k2 b o n (k1 b o n e)⟩
theorem Kept.refl {it : Addr} {s : Shared} : Kept it s s := ⟨s.heap, s.toks, rfl, fun _ _ _ e => e⟩
/-- how a turn ends of a generator that hands on the tuple at t of n items, r of them left -/
def TailE (M : Model) (A : Around) (it t : Addr) (n : Nat) : Nat → Array Value → Shared → End → Shared → Prop
  | 0 => fun _ s e s' => Kept it s s' ∧ e = .ret (.ok (.ret .none))
  | r + 1 => fun vs s e s' => Kept it s s' ∧ IsTupIter s'.heap it t (n - r) ∧ ∃ v g l k c p fs, e = .susp v g l k c p fs ∧ e.quiet = true ∧ vs[n - (r + 1)]? = some v ∧
    ∀ (s2 : Shared) (ws : Array Value), ws.size = n → IsTupIter s2.heap it t (n - r) → IsTup s2.heap t ws → Go M A (TailE M A it t n r ws s2) c (k (.send .none)) fs s2
theorem TailE.after {M : Model} {A : Around} {it t : Addr} {vs : Array Value} {n r : Nat} {s s1 : Shared} {e : End} {s' : Shared} (a : Kept it s s1) (h : TailE M A it t n r vs s1 e s') : TailE M A it t n r vs s e s' := by
  cases r with
  | zero => exact ⟨a.trans h.1, h.2⟩
  | succ r => exact ⟨a.trans h.1, h.2⟩
abbrev yfCode (it : Addr) : Code := .builtin "proto.yield_from" ⟨[.ref it, .bool false, .none], []⟩
section
variable {P : Program} {w : World} {A : Around}
theorem den_yfc {it : Addr} : (model P w).den (yfCode it) = Builtin.«proto.yield_from» ⟨[.ref it, .bool false, .none], []⟩ := by
  show (match entryFor table "proto.yield_from" with
    | some b => b ⟨[.ref it, .bool false, .none], []⟩
    | none => unsupported ((withoutEnding? "proto.yield_from" "#data").getD
        "proto.yield_from")) = _
  rw [entry_yf]
theorem close_tupit : typeLookup (.type "tuple_iterator") "close" = pure none := close_tup
/-- the turns, from any of them on -/
theorem go_yf {it t : Addr} {n : Nat} {fs : List Frame} (hh : (A.over (yfCode it) fs).handled = none) (hsp : splitAtGen fs = none) (hgd : fs.any Frame.guarded = false) (hne : t ≠ it)
    (hend : ∀ (s s1 : Shared) (vs : Array Value), Kept it s s1 → Go (model P w) A (TailE (model P w) A it t n 0 vs s) (yfCode it) (.pure (.done (.ret .none))) fs s1) :
    ∀ (r j : Nat) (s : Shared) (vs : Array Value), vs.size = n → j + r = n → IsTupIter s.heap it t j → IsTup s.heap t vs → Go (model P w) A (TailE (model P w) A it t n r vs s) (yfCode it) ((model P w).den (yfCode it)) fs s := by
  intro r
  induction r with
  | zero =>
    intro j s vs hn hj hit ht
    rw [den_yfc]
    unfold Builtin.«proto.yield_from»
    try dsimp only
    refine go_bind (wpAny_pure ?_)
    try dsimp only
    refine go_bind (wpAny_attempt (wpAny_holding ?_))
    rw [if_neg Bool.false_ne_true]
    rw [if_pos (show (Value.none == Value.none) = true from rfl)]
    refine wpAny_bind (wpAny_rule (wpAny_bind ?_))
    refine special_tup_end hh hit ht (by simp; omega) fun e h' hS hk => ?_
    obtain ⟨a, o, us, rfl, hoa, hcls, hdat, h5⟩ := hS
    try dsimp only
    refine go_bind (wpAny_endsTurn hoa hcls ?_)
    try dsimp only
    rw [if_pos rfl]
    first
      | refine go_bind (wpAny_rule ?_)
      | (rw [if_neg Bool.false_ne_true]; refine go_bind (wpAny_rule ?_))
      | (rw [if_neg Bool.false_ne_true]; refine go_bind (wpAny_pure ?_); refine go_bind (wpAny_rule ?_))
    refine go_bind (wpAny_field hoa hdat h5 ?_)
    exact hend s _ vs ⟨h', s.toks, rfl, fun b ob hb e => hk b ob hb e⟩
  | succ r ih =>
    intro j s vs hn hj hit ht
    have hjl : j < vs.size := by omega
    have hx : vs[j]? = some vs[j] := Array.getElem?_eq_getElem hjl
    rw [den_yfc]
    unfold Builtin.«proto.yield_from»
    try dsimp only
    refine go_bind (wpAny_pure ?_)
    try dsimp only
    refine go_bind (wpAny_attempt (wpAny_holding ?_))
    rw [if_neg Bool.false_ne_true]
    rw [if_pos (show (Value.none == Value.none) = true from rfl)]
    refine wpAny_bind (wpAny_rule (wpAny_bind ?_))
    refine special_tup_item hit ht hx fun h' hit' hs => ?_
    obtain ⟨oi, hoi, hoc, hod⟩ := id hit'
    refine wpAny_pure ?_
    try dsimp only
    refine go_bind (wpAny_typeOf (T := "tuple_iterator") ⟨oi, hoi, hoc⟩ ?_)
    try dsimp only
    first
      | (refine go_bind (wpAny_of_eq close_tupit ?_); refine go_bind (wpAny_pure ?_))
      | refine go_bind (wpAny_bind (wpAny_of_eq close_tupit (wpAny_pure ?_)))
      | refine go_bind (wpAny_of_eq close_tupit ?_)
    try dsimp only
    refine go_bind (wpAny_sleptOver hoi hoc (by decide) ?_)
    refine go_yield hsp fun p => ?_
    have e1 : n - (r + 1) = j := by omega
    have e2 : n - r = j + 1 := by omega
    refine ⟨⟨h', s.toks, rfl, fun b ob hb e => (hs.extBut b ob hb e)⟩, by rw [e2]; exact hit', _, _, _, _, _, _, _, rfl, by simp [End.quiet, hgd], by rw [e1]; exact hx, fun s2 ws hn2 hi2 ht2 => ?_⟩
    rw [e2] at hi2
    obtain ⟨oj, hoj, hojc, hojd⟩ := id hi2
    show Go _ _ _ _ (Builtin.Generator.sleptOver (.ref it) false >>= fun _ => _) fs s2
    refine go_bind (wpAny_sleptOver hoj hojc (by decide) ?_)
    try dsimp only
    refine go_bind (wpAny_pure ?_)
    exact go_again (plainId_quiet plain_yf _) (ih (j + 1) s2 ws hn2 (by omega) hi2 ht2)
end
end GenS
set_option Elab.async false
set_option linter.all false
set_option maxRecDepth 100000
set_option maxHeartbeats 2000000
namespace GenS
open PySem PySem.Spec PyProof.Rows L2 GenW
section
variable {P : Program} {w : World} {A : Around} {Φ : End → Shared → Prop} {s : Shared} {env : Env}
theorem go_bindw {α β : Type} {c : Code} {fs : List Frame} {m : Sem α} {f : α → Sem β} {K : β → Sem PySem.Fin} {J : Value → Sem PySem.Fin} {gd : Bool → Bool} {lv : List Value → List Value} {M : Model}
    (h : wpAny M (A.over c fs) m (fun a s1 => Go M A Φ c ((f a).wrap K J gd lv) fs s1) (fun x s1 => Go M A Φ c (J x) fs s1) s) : Go M A Φ c ((m >>= f).wrap K J gd lv) fs s := by
  rw [Sem.bind_eq_wrap', Sem.wrap_wrap]
  exact go_wrap h
theorem go_func {fs : List Frame} {body : List Stmt} (h : Go (model P w) A Φ (.func body env) ((execs body env).wrap
      (fun f => .pure (.done (.ret (match f with
        | .ret v => v
        | _ => .none)))) (fun e => (leaving env e).wrap (fun _ => .raise e) .raise id id) id id) fs s) :
    Go (model P w) A Φ (.func body env) ((model P w).den (.func body env)) fs s := by
  show Go _ A Φ _ (.point [] fun _ => ((execs body env).onRaise (leaving env)) >>= _) fs s
  refine go_point ?_
  rw [Sem.onRaise_eq_wrap]
  rw [Sem.bind_eq_wrap', Sem.wrap_wrap]
  rw [Sem.wrap_congr (execs body env) _ _ (K' := fun f => .pure (.done (.ret (match f with
        | .ret v => v
        | _ => .none)))) (H' := fun e => (leaving env e).wrap (fun _ => .raise e) .raise id id)
    (fun f => by cases f <;> rfl) (fun e => by
      rw [Sem.bind_eq_wrap]
      rw [Sem.wrap_wrap]
      rfl)]
  exact h
/-- woken for the first time, a generator whose body is «yield from» of a tuple -/
theorem go_first {e : Expr} {yp pos : Pos} {t : Addr} {vs : Array Value} (hh : A.handled = none) (ht : IsTup s.heap t vs) (hi : interactive env = false)
    (hev : wpAny (model P w) (A.deeper env) (eval e env) (fun v s1 => v = .ref t ∧ ∃ tk, s1 = { s with toks := tk }) (fun _ _ => False) s) :
    Go (model P w) A (fun e' s' => ∃ it, s.heap.objs.size ≤ it ∧ TailE (model P w) A it t vs.size vs.size vs s e' s') (.func [.Expr (.YieldFrom e yp) pos] env)
      ((model P w).den (.func [.Expr (.YieldFrom e yp) pos] env)) [] s := by
  refine go_func ?_
  rw [execs_cons_wrap]
  rw [exec_Expr env _ pos hi rfl]
  show Go _ A _ _ (.at pos fun _ => ((eval e env >>= fun v => (standAt yp >>= fun _ => yieldFrom env v)) >>= fun x => dropValue (.YieldFrom e yp) pos x).wrap _ _ _ _) [] s
  refine go_at ?_
  rw [Sem.bind_eq_wrap' (eval e env >>= _) _, Sem.wrap_wrap]
  refine go_bindw ?_
  rw [over_func]
  refine wpAny_mono hev (fun v s1 hv => ?_) fun _ _ z => z.elim
  obtain ⟨rfl, tk, rfl⟩ := hv
  refine go_at ?_
  have hT : Shared.TypeIs { s with toks := tk } (.ref t) "tuple" := IsTup.typeIs (s := { s with toks := tk }) ht
  show Go _ A _ _ ((yieldFrom env (.ref t)).wrap (fun b => (dropValue (.YieldFrom e yp) pos b).wrap _ _ _ _) _ _ _) [] _
  unfold yieldFrom
  refine go_bindw (wpAny_typeOf hT ?_)
  rw [if_neg (by decide)]
  refine go_bindw (wpAny_holding (iter_tuple (s := { s with toks := tk }) ht ?_))
  generalize hit : s.heap.objs.size = it
  have hit0 : IsTupIter (s.heap.push { cls := .type "tuple_iterator", data := .fields #[.ref t, .int 0 0] }) it t 0 := ⟨_, by rw [← hit]; exact Heap.get?_push_size _ rfl, rfl, rfl⟩
  have hne : t ≠ it := by
    rw [← hit]; exact Nat.ne_of_lt ht.lt
  refine go_call fun p => ?_
  have K0 : Kept it s { s with heap := s.heap.push { cls := .type "tuple_iterator", data := .fields #[.ref t, .int 0 0] }, toks := tk } := ⟨_, _, rfl, fun b o _ z => Heap.get?_push_of_some _ z⟩
  refine (go_yf (P := P) (w := w) (A := A) (it := it) (t := t) (n := vs.size) ?_ rfl rfl hne (fun s2 s3 _ hk => ?_) vs.size 0 _ vs rfl (Nat.zero_add _) hit0 (ht.push _)).imp fun e' s' z => ⟨it, by rw [← hit]; exact Nat.le_refl _, z.after K0⟩
  · show (A.over (.func [.Expr (.YieldFrom e yp) pos] env) []).handled = none
    rw [over_func]; exact hh
  · refine go_leaf (.ok (.ret .none)) ?_
    exact go_end (.ok (.ret .none)) ⟨hk, rfl⟩
end
/-! ### next -/
section
variable {P : Program} {w : World} {A : Around} {E : Value → Shared → Prop} {s : Shared}
theorem wpAny_wakeS {α : Type} {g : Nat} {k0 : Resume → Sem PySem.Fin} {l0 : List Value} {c0 : Code} {p0 : Pos} {fs : List Frame} {cl : Bool} {r : Resume} {l : List Value} {k : GenResult → Sem α} {Q : α → Shared → Prop} {Φ : End → Shared → Prop}
    (hg : s.gens[g]? = some (.suspended k0 l0 c0 p0 fs cl)) (h : Go (model P w) A Φ c0 (k0 r) fs (s.setGen g .running))
    (hq : ∀ e s1, Φ e s1 → e.quiet = true ∧ wpAny (model P w) A (k e.result) Q E (s1.setGen g e.genState)) : wpAny (model P w) A (.resume g r l k) Q E s := by
  intro Γ p hΓ
  rw [Sem.wp_resume]
  obtain ⟨e, s1, hr, he⟩ := h (Γ.wake c0 p) p0 rfl (hΓ.wake c0 p)
  obtain ⟨h1, h2⟩ := hq e s1 he
  exact ⟨_, _, by unfold Wakes; rw [hg]; exact ⟨e, s1, hr, h1, rfl, rfl⟩, h2 Γ p hΓ⟩
theorem wpAny_wakeF {α : Type} {g : Nat} {c0 : Code} {l : List Value} {k : GenResult → Sem α} {Q : α → Shared → Prop} {Φ : End → Shared → Prop}
    (hg : s.gens[g]? = some (.fresh c0)) (h : Go (model P w) A Φ c0 ((model P w).den c0) [] (s.setGen g .running))
    (hq : ∀ e s1, Φ e s1 → e.quiet = true ∧ wpAny (model P w) A (k e.result) Q E (s1.setGen g e.genState)) : wpAny (model P w) A (.resume g (.send .none) l k) Q E s := by
  intro Γ p hΓ
  rw [Sem.wp_resume]
  obtain ⟨e, s1, hr, he⟩ := h (Γ.wake c0 p) p rfl (hΓ.wake c0 p)
  obtain ⟨h1, h2⟩ := hq e s1 he
  exact ⟨_, _, by unfold Wakes; rw [hg]; exact ⟨e, s1, hr, h1, rfl, rfl⟩, h2 Γ p hΓ⟩
/-- next(g): a turn's end tells the answer -/
theorem next_gen {a : Addr} {g : Nat} {gs : GenState} {Q : Option Value → Shared → Prop} {Φ : End → Shared → Prop} (hh : A.handled = none) (hl : s.heap.NoLimit) (hroom : A.depth < recursionLimit) (hg : s.heap.IsGen a g) (hgs : s.gens[g]? = some gs)
    (hgo : match gs with
      | .fresh c0 => Go (model P w) A.in1 Φ c0 ((model P w).den c0) [] (s.setGen g .running)
      | .suspended k0 _ c0 _ fs _ => Go (model P w) A.in1 Φ c0 (k0 (.send .none)) fs (s.setGen g .running)
      | _ => False)
    (hY : ∀ v gd l k c p fs s1, Φ (.susp v gd l k c p fs) s1 → (End.susp v gd l k c p fs).quiet = true ∧ Q (some v) (s1.setGen g (End.susp v gd l k c p fs).genState))
    (hR : ∀ r s1, Φ (.ret r) s1 → r = .ok (.ret .none) ∧ ∀ h', (∀ b o, s1.heap.get? b = some o → h'.get? b = some o) → Q none { s1.setGen g .finished with heap := h' }) :
    wpAny (model P w) A (pyNext (.ref a)) Q E s := by
  unfold pyNext
  refine wpAny_bind (wpAny_attempt (wpAny_callSpecial?_slot (name := Str.ofString "__next__") hg.typeIs slot_gen_next ?_))
  refine wpAny_call_entry slot_gen_next hg.typeIs entry_gen_next ?_ (args_gen_next _)
  show wpAny _ A.in1 (Builtin.Generator.genWake (.ref a) (.send .none)) _ _ s
  unfold Builtin.Generator.genWake
  refine wpAny_bind (wpAny_holding (wpAny_genNumber hg (wpAny_bind (wpAny_genState hgs ?_))))
  cases gs
  case running => exact hgo.elim
  case finished => exact hgo.elim
  all_goals refine wpAny_bind (wpAny_roomToWake hl hroom ?_)
  all_goals first
    | refine wpAny_wakeF hgs hgo fun e s1 he => ?_
    | refine wpAny_wakeS hgs hgo fun e s1 he => ?_
  all_goals
    cases e with
    | susp v gd l k c p fs =>
      exact (hY v gd l k c p fs s1 he).imp id fun q2 => wpAny_pure ⟨v, rfl, wpAny_pure q2⟩
    | ret r =>
      obtain ⟨rfl, q⟩ := hR r s1 he
      refine ⟨rfl, ?_⟩
      show wpAny _ _ (newExc (.type "StopIteration") [] >>= _) _ _ _
      refine wpAny_bind ?_
      simp only [newExc, newTuple]
      refine wpAny_bind (wpAny_newObj_type (wpAny_bind (m := firstArgMember _ _) (wpAny_of_eq (a := Value.none) (by first | rfl | (simp only [firstArgMember]; rfl)) (wpAny_newObj_type ?_ (by size_fits)))) (by size_fits))
      simp only [raiseNew]
      refine wpAny_bind (wpAny_bind (wpAny_handled ?_))
      rw [show A.in1.handled = none from hh]
      refine wpAny_throw (wpAny_bind (wpAny_isInstance (T := "StopIteration") (b := true) ⟨_, Heap.get?_push_size _ rfl, rfl⟩ isSubtype_stop (wpAny_pure (q _ fun b o hb => ?_))))
      exact Heap.get?_push_of_some _ (Heap.get?_push_of_some _ hb)
end
end GenS
set_option Elab.async false
set_option linter.all false
set_option maxRecDepth 100000
set_option maxHeartbeats 2000000
namespace GenS
open PySem PySem.Spec PyProof.Rows L2 GenW

/-! ### a generator method that hands on a tuple of its object -/
def Awake0 (ob : Addr) (fld : Str) (a : Addr) (g : Nat) (s : Shared) : Prop :=
  s.heap.IsGen a g ∧ ∃ (env : Env) (x : Str) (p1 p2 yp pos : Pos) (m : Str → Option Value), s.gens[g]? = some (.fresh (.func [.Expr (.YieldFrom (.Attribute (.Name x p1) fld p2) yp) pos] env)) ∧
    env.scope.kind = .function ∧ env.kindOf x = some .local ∧ s.heap.Ns env.locals m ∧ m x = some (.ref ob) ∧ interactive env = false ∧ (x == ("__debug__" : Str)) = false
theorem Awake0.keep {ob a : Addr} {fld : Str} {g : Nat} {s s' : Shared} (h : Awake0 ob fld a g s) (k : ∀ b o, s.heap.get? b = some o → s'.heap.get? b = some o) (e : s'.gens[g]? = s.gens[g]?) : Awake0 ob fld a g s' := by
  obtain ⟨h1, env, x, p1, p2, yp, pos, m, h2, h3, h4, h5, r⟩ := h
  exact ⟨h1.keeps k, env, x, p1, p2, yp, pos, m, e.trans h2, h3, h4, h5.keeps k, r⟩
def Asleep (P : Program) (w : World) (A : Around) (t : Addr) (n : Nat) (a : Addr) (g : Nat) (it : Addr) (i : Nat) (s : Shared) : Prop :=
  s.heap.IsGen a g ∧ IsTupIter s.heap it t i ∧ i ≤ n ∧ ∃ k l c p fs, s.gens[g]? = some (.suspended k l c p fs false) ∧
    ∀ (s2 : Shared) (ws : Array Value), ws.size = n → IsTupIter s2.heap it t i → IsTup s2.heap t ws → Go (model P w) A.in1 (TailE (model P w) A.in1 it t n (n - i) ws s2) c (k (.send .none)) fs s2
theorem Asleep.keep {P : Program} {w : World} {A : Around} {t a it : Addr} {n g i : Nat} {s s' : Shared} (h : Asleep P w A t n a g it i s) (k1 : ∀ o, s.heap.get? a = some o → s'.heap.get? a = some o)
    (k2 : ∀ o, s.heap.get? it = some o → s'.heap.get? it = some o) (e : s'.gens[g]? = s.gens[g]?) : Asleep P w A t n a g it i s' := by
  obtain ⟨⟨o, nm, qn, h1, r1⟩, ⟨o2, h2, r2⟩, h3, k, l, c, p, fs, h4, r⟩ := h
  exact ⟨⟨o, nm, qn, k1 o h1, r1⟩, ⟨o2, k2 o2 h2, r2⟩, h3, k, l, c, p, fs, e.trans h4, r⟩
theorem Asleep.sleeps {P : Program} {w : World} {A : Around} {t a it : Addr} {n g i : Nat} {s : Shared} (h : Asleep P w A t n a g it i s) : ∃ st, s.gens[g]? = some st ∧ sleeps st = true := by
  obtain ⟨_, _, _, k, l, c, p, fs, h4, _⟩ := h
  exact ⟨_, h4, rfl⟩
theorem inv_gens {X : Cx} {pins : List (Addr × Obj)} {σ : L2.St} {H : Hp} {s s' : Shared} (I : Inv X pins σ H s) (e : s' = { s with gens := s'.gens }) (hb : AllBare s'.gens) : Inv X pins σ H s' := by
  generalize s'.gens = G at e hb
  subst e
  exact ⟨I.ok, I.os, hb, I.base, I.loc, I.cell, I.free, I.freeC, I.pin, I.hok, I.len⟩
theorem susp_bare {v : Value} {gd : Bool} {l : List Value} {k : Resume → Sem PySem.Fin} {c : Code} {p : Pos} {fs : List Frame} (h : (End.susp v gd l k c p fs).quiet = true) : (End.susp v gd l k c p fs).genState = .suspended k l c p fs false := by
  have h : (!(gd || fs.any Frame.guarded)) = true := h
  show GenState.suspended k l c p fs (gd || fs.any Frame.guarded) = _
  cases q : (gd || fs.any Frame.guarded) with
  | false => rfl
  | true => rw [q] at h; cases h
section
variable {X : Cx} {pins : List (Addr × Obj)} {σ : L2.St} {H : Hp} {s : Shared} {E : Value → Shared → Prop} {Q : Option Value → Shared → Prop} {ob C dx a t : Addr} {fld : Str} {fs : List (Str × V)} {xs : List V} {g : Nat}
/-- behind a turn: the state, told from the one ahead of it -/
theorem turned_gen {it : Addr} {s1 : Shared} {st : GenState} (I : Inv X pins σ H s) (hk : Kept it (s.setGen g .running) s1) (f : FpOk X pins H it) (hst : st.bare = true) : Inv X pins σ H (s1.setGen g st) := by
  obtain ⟨h', tk, rfl, k⟩ := hk
  obtain ⟨f0, f1, f2, f3, f4, f5⟩ := f
  have I1 : Inv X pins σ H { s with heap := h', toks := tk } := I.turned (fun b o hb e => k b o hb e) f0 f1 f3 f4 f5
  exact inv_gens I1 rfl (allBare_setGen (allBare_setGen (s := s) (g := g) (x := .running) I.bare rfl) hst)
theorem gens_lt {st : GenState} (h : s.gens[g]? = some st) : g < s.gens.size := by
  rcases Nat.lt_or_ge g s.gens.size with z | z
  · exact z
  · rw [Array.getElem?_eq_none z] at h; cases h
theorem setGen2_at {s1 : Shared} {it : Addr} {st st' : GenState} (h : s.gens[g]? = some st) (hk : Kept it (s.setGen g .running) s1) : (s1.setGen g st').gens[g]? = some st' := by
  obtain ⟨h', tk, rfl, _⟩ := hk
  refine setGen_at (s := { (s.setGen g .running) with heap := h', toks := tk }) (x := st') ?_
  show g < (s.setGen g .running).gens.size
  rw [setGen_size]
  exact gens_lt h
theorem next_awake (I : Inv X pins σ H s) (hd : X.A.handled = none) (room : X.A.depth < recursionLimit) (h : Awake0 ob fld a g s) (ho : H ob = some (.ins C dx fs)) (c : Cls X.K C) (na : NoAttr X.K C fld) (l : fs.lookup fld = some (.ref t)) (hq : SqT X.K H t xs)
    (hQ : ∀ x it s1 u, xs[0]? = some x → RelV x u → Inv X pins σ H s1 → FpOk X pins H it → (∀ o, s.heap.get? a = some o → s1.heap.get? a = some o) → Asleep X.prog X.w X.A t xs.length a g it 1 s1 → Q (some u) s1) (hE : ∀ s1, xs.length ≤ 0 → Inv X pins σ H s1 → Q none s1) :
    wpAny (model X.prog X.w) X.A (pyNext (.ref a)) Q E s := by
  obtain ⟨hg, env, x, p1, p2, yp, pos, m, hgs, hk, hl, hns, hm, hi, hdb⟩ := h
  obtain ⟨its, rv, p, hz⟩ := I.tuple hq
  have hlen : its.toArray.size = xs.length := by have := rv.length; simp; omega
  obtain ⟨mA, O, ro, _, _, _⟩ := ins_get I.hok ho
  obtain ⟨u, hu, ru⟩ := RelO.some_of (v := .ref t) (o := mA fld) (by rw [← l]; exact ro fld)
  have hnd := handed_of ru
  obtain rfl : u = Value.ref t := ru
  have young : ∀ it, s.heap.objs.size ≤ it → FpOk X pins H it := fun it hit => I.fpOk hit (I.hok.fresh hit)
  refine next_gen hd I.nolimit room hg hgs (Φ := fun e' s' => ∃ it, s.heap.objs.size ≤ it ∧ TailE (model X.prog X.w) X.A.in1 it t its.toArray.size its.toArray.size its.toArray (s.setGen g .running) e' s')
    (go_first (s := s.setGen g .running) hd p hi (attr_of rfl (wpAny_Name (wpAny_loadName_local hk hl hns hm (get_map (s := s.setGen g .running) I.kIn O (c.get fld) c.hd na hu hnd ⟨rfl, _, rfl⟩)) hdb))) ?_ ?_
  · intro v gd l' k' c' p' fs' s1 hΦ
    obtain ⟨it, hit, hT⟩ := hΦ
    generalize hn : its.toArray.size = n at hT hlen
    cases n with
    | zero => obtain ⟨_, z⟩ := hT; cases z
    | succ n =>
      obtain ⟨hk1, hi1, v2, g2, l2, k2, c2, p2', fs2, z, hqt, hv, nx⟩ := hT
      cases z
      refine ⟨hqt, ?_⟩
      rw [show n + 1 - (n + 1) = 0 by omega] at hv
      rw [show n + 1 - n = 1 by omega] at hi1 nx
      have hb := End.bare_of_quiet hqt
      have x0 : ∃ x, xs[0]? = some x ∧ RelV x v := by
        have hl0 : 0 < xs.length := by omega
        obtain ⟨u', hu', ru'⟩ := rv.get (List.getElem?_eq_getElem hl0)
        have : its[0]? = some v := by simpa using hv
        rw [this] at hu'
        cases hu'
        exact ⟨_, List.getElem?_eq_getElem hl0, ru'⟩
      obtain ⟨x, hx, rx⟩ := x0
      have ge : s1.setGen g (End.susp v gd l' k' c' p' fs').genState = s1.setGen g (.suspended k' l' c' p' fs' false) := by rw [susp_bare hqt]
      have hlt : a < s.heap.objs.size := by
        obtain ⟨o, nm, qn, e, _⟩ := hg
        exact Heap.lt_size e
      have ka : ∀ o, s.heap.get? a = some o → s1.heap.get? a = some o := fun o e => by
        obtain ⟨h', tk, rfl, kk⟩ := hk1
        exact kk a o (fun z => by rw [z] at hlt; exact absurd (Nat.lt_of_lt_of_le hlt hit) (Nat.lt_irrefl _)) e
      refine hQ x it _ v hx rx (turned_gen I hk1 (young it hit) hb) (young it hit) ka ?_
      rw [ge]
      obtain ⟨o, nm, qn, e, r⟩ := hg
      refine ⟨⟨o, nm, qn, ka o e, r⟩, hi1, by omega, k', l', c', p', fs', setGen2_at hgs hk1, fun s2 ws hw h1 h2 => ?_⟩
      rw [← hlen]
      exact nx s2 ws (by omega) h1 h2
  · intro r s1 hΦ
    obtain ⟨it, hit, hT⟩ := hΦ
    generalize hn : its.toArray.size = n at hT hlen
    cases n with
    | zero =>
      obtain ⟨hk1, z⟩ := hT
      cases z
      refine ⟨rfl, fun h' kk => hE _ (by omega) ?_⟩
      have I1 := turned_gen (st := .finished) I hk1 (young it hit) rfl
      exact I1.kept (t' := (s1.setGen g .finished).toks) kk
    | succ n => obtain ⟨_, _, _, _, _, _, _, _, _, z, _⟩ := hT; cases z
theorem next_asleep {it : Addr} {i : Nat} (I : Inv X pins σ H s) (hd : X.A.handled = none) (room : X.A.depth < recursionLimit) (f : FpOk X pins H it) (hai : a ≠ it) (h : Asleep X.prog X.w X.A t xs.length a g it i s) (hq : SqT X.K H t xs)
    (hQ : ∀ x s1 u, xs[i]? = some x → RelV x u → Inv X pins σ H s1 → (∀ o, s.heap.get? a = some o → s1.heap.get? a = some o) → Asleep X.prog X.w X.A t xs.length a g it (i + 1) s1 → Q (some u) s1) (hE : ∀ s1, xs.length ≤ i → Inv X pins σ H s1 → Q none s1) :
    wpAny (model X.prog X.w) X.A (pyNext (.ref a)) Q E s := by
  obtain ⟨hg, hit, hin, k, l, c, p, fs, hgs, go⟩ := h
  obtain ⟨its, rv, ht, hz⟩ := I.tuple hq
  have hlen : its.toArray.size = xs.length := by have := rv.length; simp; omega
  refine next_gen hd I.nolimit room hg hgs (Φ := TailE (model X.prog X.w) X.A.in1 it t xs.length (xs.length - i) its.toArray (s.setGen g .running)) (go (s.setGen g .running) its.toArray hlen hit ht) ?_ ?_
  · intro v gd l' k' c' p' fs' s1 hT
    generalize hr : xs.length - i = r at hT
    cases r with
    | zero => obtain ⟨_, z⟩ := hT; cases z
    | succ r =>
      obtain ⟨hk1, hi1, v2, g2, l2, k2, c2, p2', fs2, z, hqt, hv, nx⟩ := hT
      cases z
      refine ⟨hqt, ?_⟩
      rw [show xs.length - (r + 1) = i by omega] at hv
      rw [show xs.length - r = i + 1 by omega] at hi1 nx
      have hb := End.bare_of_quiet hqt
      have hl0 : i < xs.length := by omega
      obtain ⟨u', hu', ru'⟩ := rv.get (List.getElem?_eq_getElem hl0)
      have hv' : its[i]? = some v := by simpa using hv
      rw [hv'] at hu'
      cases hu'
      have ge : s1.setGen g (End.susp v gd l' k' c' p' fs').genState = s1.setGen g (.suspended k' l' c' p' fs' false) := by rw [susp_bare hqt]
      have ka : ∀ o, s.heap.get? a = some o → s1.heap.get? a = some o := fun o e => by
        obtain ⟨h', tk, rfl, kk⟩ := hk1
        exact kk a o hai e
      refine hQ _ _ v (List.getElem?_eq_getElem hl0) ru' (turned_gen I hk1 f hb) ka ?_
      rw [ge]
      obtain ⟨o, nm, qn, e, rr⟩ := hg
      refine ⟨⟨o, nm, qn, ka o e, rr⟩, hi1, by omega, k', l', c', p', fs', setGen2_at hgs hk1, fun s2 ws hw h1 h2 => ?_⟩
      rw [show xs.length - (i + 1) = r by omega]
      exact nx s2 ws hw h1 h2
  · intro r s1 hT
    generalize hr : xs.length - i = r' at hT
    cases r' with
    | zero =>
      obtain ⟨hk1, z⟩ := hT
      cases z
      refine ⟨rfl, fun h' kk => hE _ (by omega) ?_⟩
      have I1 := turned_gen (st := .finished) I hk1 f rfl
      exact I1.kept (t' := (s1.setGen g .finished).toks) kk
    | succ r' => obtain ⟨_, _, _, _, _, _, _, _, _, z, _⟩ := hT; cases z
end
end GenS
set_option Elab.async false
set_option linter.all false
set_option maxRecDepth 100000
set_option maxHeartbeats 2000000
namespace GenS
open PySem PySem.Spec PyProof.Rows L2 GenW

/-- the items xs of the tuple at t, one a turn -/
def Itg (K : PySem.W.Frag) (t : Addr) (xs : List V) : It := ⟨fun i H => SqT K H t xs ∧ i < xs.length, fun i H x H' => H' = H ∧ xs[i]? = some x, fun i H => SqT K H t xs ∧ xs.length ≤ i⟩
theorem walk_gen {K : PySem.W.Frag} {t : Addr} {xs : List V} : Walk (Itg K t xs) xs.length (fun H => SqT K H t xs) (YAt xs) :=
  ⟨fun _ _ lt q => ⟨q, lt⟩, fun _ q => ⟨q, Nat.le_refl _⟩, fun _ _ _ _ _ _ y => y⟩
/-- its own object, as a pin asks -/
def PinOk (X : Cx) (H : Hp) (b : Addr) : Prop := H b = none ∧ b ≠ X.env.locals ∧ b ∉ X.fs
/-- a generator has come that was not woken yet -/
structure NewGen (X : Cx) (pins : List (Addr × Obj)) (σ : L2.St) (R : It → Hp → Prop) (a : Addr) (s : Shared) : Prop where
  all : ∃ (g : Nat) (ob C dx t : Addr) (fld : Str) (fs : List (Str × V)) (xs : List V) (H : Hp), Inv X pins σ H s ∧ Awake0 ob fld a g s ∧ FpOk X pins H a ∧ H ob = some (.ins C dx fs) ∧ Cls X.K C ∧ NoAttr X.K C fld ∧
    fs.lookup fld = some (.ref t) ∧ SqT X.K H t xs ∧ R (Itg X.K t xs) H
structure PIG (X : Cx) (iter : Expr) (wi : TI) : Prop where
  run : ∀ (pins : List (Addr × Obj)) (s : Shared) (σ : L2.St) (H : Hp) (R : It → Hp → Prop), Inv X pins σ H s → wi σ H R →
    wpAny (model X.prog X.w) X.A (eval iter X.env) (fun v s1 => wpAny (model X.prog X.w) X.A (pyIter v) (fun u s2 => ∃ a, u = .ref a ∧ NewGen X pins σ R a s2) X.xe s1) X.xe s
/-- a run amid the turns: who sleeps stays asleep -/
theorem kept_asleep {α : Type} {X : Cx} {pins : List (Addr × Obj)} {σ : L2.St} {H : Hp} {s : Shared} {t : Sem α} {E : Value → Shared → Prop} {g : Nat} {st : GenState} {q : α → L2.St → Hp → Shared → Prop} (I : Inv X pins σ H s) (hg : s.gens[g]? = some st) (hs : sleeps st = true)
    (h : ∀ s0, Inv X pins σ H s0 → wpAny (model X.prog X.w) X.A t (fun a s1 => ∃ σ' H', Inv X pins σ' H' s1 ∧ ∀ s2, Inv X pins σ' H' s2 → q a σ' H' s2) (fun _ _ => False) s0) :
    wpAny (model X.prog X.w) X.A t (fun a s' => ∃ σ' H', Inv X pins σ' H' s' ∧ q a σ' H' s' ∧ s'.gens[g]? = some st) E s := by
  have I0 : Inv X pins σ H (numbed s) := inv_gens I rfl (allBare_numbed I.bare)
  refine wpAny_mono (wpAny_asleep (h _ I0)) (fun a s' z => ?_) fun e s' z => ?_
  · obtain ⟨s1, ⟨σ', H', I1, q1⟩, e1, b1, k1⟩ := z
    have I2 := inv_gens I1 e1 (b1 I.bare I1.bare)
    exact ⟨σ', H', I2, q1 _ I2, k1 g st hg hs⟩
  · obtain ⟨s1, z, _⟩ := z
    exact z.elim
section
variable {X : Cx}
theorem lcG_core {pins : List (Addr × Obj)} {s : Shared} {σ : L2.St} {H : Hp} {Q : VK} {elt tg iter : Expr} {ifs : List Expr} {scope : Scope} {own : List (Str × Nat)} {pos pos' : Pos} {wi : TI} {g : TG} {tt : TT} {te : TE} {use : Option (Value → Sem Unit)} {Qf : Value → Shared → Prop}
    (hd : X.A.handled = none) (room : X.A.depth < recursionLimit) (hN : X.N.Nodup) (I : Inv X pins σ H s) (hi : PIG X iter wi) (ok : BlkOk X.N X.env.scope scope own)
    (hg : ∀ (s : Shared) (H : Hp) (C : Addr) (cl : List (Str × Addr)), PG (X.blk s H scope (compEnvC scope cl C X.env) []) tg g) (ht : ∀ (s : Shared) (H : Hp) (C : Addr) (cl : List (Str × Addr)), PTs (X.blk s H scope (compEnvC scope cl C X.env) []) ifs tt)
    (he : ∀ (s : Shared) (H : Hp) (C : Addr) (cl : List (Str × Addr)), PE (X.blk s H scope (compEnvC scope cl C X.env) []) elt te) (hs : ∀ x, foldedSetIterable iter X.env x = pure x)
    (h : tLc wi g tt te (own.map (·.2)) σ H Q)
    (back : ∀ L C s' m H', Inv X pins σ H' s' → Q (.ref L) H' → s'.heap.Ns C m → FpOk X pins H' C → compPost (model X.prog X.w) X.A X.xe use Qf (.ref L) C (.ok .next) s') :
    wpAny (model X.prog X.w) X.A (comprehension (.ListComp elt [⟨tg, iter, ifs, 0⟩] scope pos) scope X.env pos' (newList []) false (eval iter X.env) use) Qf X.xe s := by
  have cap : ∀ y ∈ scope.names, y.2 = .free → ∃ c, X.env.cells.lookup y.1 = some c := fun y hy e => X.env.scope.names |> fun _ => (ok.free y hy e).elim (fun k => I.ok.has _ (.inl k)) fun k => I.ok.has _ (.inr k)
  refine wpAny_comprehension_free (use := use) rfl hs (closure_ok cap) ok.kind (fun y hy e => by rw [ok.uniq y hy, e]) ?_
  refine thn (hi.run pins s σ H _ I h) fun xv s1 hx => thn hx fun itv s2 h2 => ?_
  obtain ⟨a, rfl, ⟨gn, ob, C, dx, t, fld, fs, xs, H2, I2, aw, fa, ho, cl, na, lk, hq, q⟩⟩ := h2
  refine wpAny_newObj_type (newEnv_comp ?_) (by show 0 ≤ sizeLine; decide)
  generalize eL : s2.heap.objs.size = L
  have nL : H2 L = none := I2.hok.fresh (Nat.le_of_eq eL)
  obtain ⟨W, ⟨mz, wz⟩, walk⟩ := q L nL
  generalize e3 : ({ s2 with heap := s2.heap.push { cls := .type "list", data := .seq ([] : List Value).toArray } } : Shared) = sb
  have p3 : sb.heap = s2.heap.push { cls := .type "list", data := .seq ([] : List Value).toArray } := by
    rw [← e3]
  have g3 : sb.gens = s2.gens := by rw [← e3]
  have Ib : Inv X pins σ (upd H2 L (.lst [])) sb := by
    rw [← e3]
    refine I2.laid (t' := s2.toks) (fun b o e => Heap.get?_push_of_some _ e) (Nat.le_of_eq eL) ⟨Nat.zero_le _, [], 0, .nil, ?_⟩
    rw [← eL]; exact Heap.get?_push_size _ rfl
  have lta : a < s2.heap.objs.size := by
    obtain ⟨⟨o, _, _, e, _⟩, _⟩ := aw
    exact Heap.lt_size e
  have aw3 : Awake0 ob fld a gn sb := aw.keep (fun b o e => by rw [p3]; exact Heap.get?_push_of_some _ e) (by rw [g3])
  have neD : ∀ {b : Addr} {u : HO}, H2 b = some u → (upd H2 L (.lst [])) b = some u := fun {b u} e => by rw [upd_ne (ne_of_none e nL)]; exact e
  have fa3 : (upd H2 L (.lst [])) a = none := by
    rw [upd_ne (by rw [← eL]; exact Nat.ne_of_lt lta)]
    exact fa.1
  have Ic := block_start (fp := []) Ib ok hN (fun b hb => by simp at hb)
  have gT := hg sb (upd H2 L (.lst [])) sb.heap.objs.size (cellsFrom (sb.heap.objs.size + 1) scope.names (cloFrom X.env.cells scope.names []))
  have gI := ht sb (upd H2 L (.lst [])) sb.heap.objs.size (cellsFrom (sb.heap.objs.size + 1) scope.names (cloFrom X.env.cells scope.names []))
  have gE := he sb (upd H2 L (.lst [])) sb.heap.objs.size (cellsFrom (sb.heap.objs.size + 1) scope.names (cloFrom X.env.cells scope.names []))
  show codeAny _ _ (.compStart (.ListComp elt [⟨tg, iter, ifs, 0⟩] scope pos) 0 (.ref a) (.ref L) (compEnvC scope (cellsFrom (sb.heap.objs.size + 1) scope.names (cloFrom X.env.cells scope.names [])) sb.heap.objs.size X.env)) (compPost _ _ X.xe use Qf (.ref L) sb.heap.objs.size) { sb with heap := pushCells (sb.heap.push { cls := .type "dict", data := .dict #[] }) scope.names }
  generalize ec : compEnvC scope (cellsFrom (sb.heap.objs.size + 1) scope.names (cloFrom X.env.cells scope.names [])) sb.heap.objs.size X.env = be at Ic gT gI gE ⊢
  have lb : be.locals = sb.heap.objs.size := by rw [← ec]; rfl
  have lta3 : a < sb.heap.objs.size := by rw [p3, Heap.size_push]; exact Nat.lt_succ_of_lt lta
  have ho3 := neD ho
  have hq3 : SqT X.K (upd H2 L (.lst [])) t xs := by
    rcases hq with (z | ⟨o, z⟩) | z
    · exact .inl (.inl (neD z))
    · exact .inl (.inr ⟨o, neD z⟩)
    · exact .inr z
  generalize hH3 : upd H2 L (.lst []) = Hb0 at Ib Ic gT gI gE wz fa3 ho3 hq3
  generalize e4 : ({ sb with heap := pushCells (sb.heap.push { cls := .type "dict", data := .dict #[] }) scope.names } : Shared) = sc at Ic ⊢
  have aw4 : Awake0 ob fld a gn sc := aw3.keep (fun b o e => by rw [← e4]; exact pushCells_keeps _ _ _ _ (Heap.get?_push_of_some _ e)) (by rw [← e4])
  have hdB : (X.blk sb Hb0 scope be []).A.handled = none := hd
  have pina : ∀ {H' : Hp} {s' : Shared}, Inv (X.blk sb Hb0 scope be []) [] (wipe σ (own.map (·.2))) H' s' → H' a = none → PinOk (X.blk sb Hb0 scope be []) H' a := fun {H' s'} I' hn => by
    refine ⟨hn, ?_, fun z => ?_⟩
    · show a ≠ be.locals
      rw [lb]
      exact Nat.ne_of_lt lta3
    · rcases List.mem_cons.mp (Ib.stkSub a z) with y | y
      · exact fa.2.1 y
      · exact fa.2.2.1 y
  -- a turn's rest, and how the walk goes on
  have rest : ∀ (n i : Nat) (u : Value) (x : V) (it : Addr) (H5 : Hp) (s6 : Shared), Inv (X.blk sb Hb0 scope be []) [] (wipe σ (own.map (·.2))) H5 s6 → H5 a = none → FpOk (X.blk sb Hb0 scope be []) [] H5 it → a ≠ it → Asleep X.prog X.w X.A t xs.length a gn it (i + 1) s6 → xs[i]? = some x → RelV x u → W i n H5 →
      (∃ Nx : Hp → Prop, (∀ H', Nx H' → ∃ m', m' < n ∧ W (i + 1) m' H') ∧ g x (wipe σ (own.map (·.2))) H5 fun σ2 Hb => wipe σ2 (own.map (·.2)) = wipe σ (own.map (·.2)) ∧ tt σ2 Hb fun b Hc => if b = true then te σ2 Hc fun y Hd => ∃ acc, Hd L = some (.lst acc) ∧ acc.length < sizeLine ∧ Nx (upd Hd L (.lst (acc ++ [y]))) else Nx Hc) →
      wpAny (model X.prog X.w) X.A (letOwnedTupleGo tg (.ref a) u) (fun _ s1' => wpAny (model X.prog X.w) X.A (assign tg be u) (fun _ s₂ =>
          wpAny (model X.prog X.w) X.A (forIn ifs true fun c r => if r = true then do let ok ← isTrue c be (eval c be); pure (ForInStep.yield ok) else pure (ForInStep.yield r)) (fun ok s₃ =>
            if ok = true then wpAny (model X.prog X.w) X.A (eval elt be) (fun x s₄ =>
              wpAny (model X.prog X.w) X.A (call (.builtin "list.append") [.ref L, x]) (fun _ s₅ => ∃ m, m < n ∧ ∃ i it H', Inv (X.blk sb Hb0 scope be []) [] (wipe σ (own.map (·.2))) H' s₅ ∧ H' a = none ∧ FpOk (X.blk sb Hb0 scope be []) [] H' it ∧ a ≠ it ∧ Asleep X.prog X.w X.A t xs.length a gn it i s₅ ∧ W i m H') (notedBy (model X.prog X.w) X.A be fun e s' => compPost (model X.prog X.w) X.A X.xe use Qf (.ref L) sb.heap.objs.size (.error e) s') s₄) (notedBy (model X.prog X.w) X.A be fun e s' => compPost (model X.prog X.w) X.A X.xe use Qf (.ref L) sb.heap.objs.size (.error e) s') s₃
            else ∃ m, m < n ∧ ∃ i it H', Inv (X.blk sb Hb0 scope be []) [] (wipe σ (own.map (·.2))) H' s₃ ∧ H' a = none ∧ FpOk (X.blk sb Hb0 scope be []) [] H' it ∧ a ≠ it ∧ Asleep X.prog X.w X.A t xs.length a gn it i s₃ ∧ W i m H') (notedBy (model X.prog X.w) X.A be fun e s' => compPost (model X.prog X.w) X.A X.xe use Qf (.ref L) sb.heap.objs.size (.error e) s') s₂) (notedBy (model X.prog X.w) X.A be fun e s' => compPost (model X.prog X.w) X.A X.xe use Qf (.ref L) sb.heap.objs.size (.error e) s') s1') (notedBy (model X.prog X.w) X.A be fun e s' => compPost (model X.prog X.w) X.A X.xe use Qf (.ref L) sb.heap.objs.size (.error e) s') s6 := by
    intro n i u x it H5 s6 I6 na5 fit hai as6 hx rx w5 hN2
    obtain ⟨Nx, less, step⟩ := hN2
    obtain ⟨⟨oa, nm, qn, ea, ca, da, _⟩, ⟨oi, ei, ci, di⟩, _⟩ := id as6
    obtain ⟨st, hst, hsl⟩ := as6.sleeps
    refine go_of (n := "generator") ea ca da (by decide) ?_
    have pa := pina I6 na5
    -- the generator's objects pinned
    have I7 : Inv (X.blk sb Hb0 scope be []) [(a, oa), (it, oi)] (wipe σ (own.map (·.2))) H5 s6 := I6.pins_of fun p hp => by
      rcases List.mem_cons.mp hp with z | z
      · rw [z]; exact ⟨ea, pa.1, pa.2.1, pa.2.2, fun v q => by
          have q : oa.data = .cell v := q
          rw [da] at q; cases q⟩
      · rw [List.mem_singleton.mp z]; exact ⟨ei, fit.1, fit.2.1, fit.2.2.1, fun v q => by
          have q : oi.data = .cell v := q
          rw [di] at q; cases q⟩
    have fin : ∀ {s' : Shared} {H' : Hp} {σ8 : L2.St}, wipe σ8 (own.map (·.2)) = wipe σ (own.map (·.2)) → Inv (X.blk sb Hb0 scope be []) [(a, oa), (it, oi)] σ8 H' s' → s'.gens[gn]? = some st → Nx H' →
        ∃ m, m < n ∧ ∃ i it H', Inv (X.blk sb Hb0 scope be []) [] (wipe σ (own.map (·.2))) H' s' ∧ H' a = none ∧ FpOk (X.blk sb Hb0 scope be []) [] H' it ∧ a ≠ it ∧ Asleep X.prog X.w X.A t xs.length a gn it i s' ∧ W i m H' := fun {s' H' σ8} wp8 I' hg' nx => by
      obtain ⟨m', hm, w'⟩ := less H' nx
      have z1 := I'.pin (a, oa) (List.mem_append_right _ (by simp))
      have z2 := I'.pin (it, oi) (List.mem_append_right _ (by simp))
      have len : (wipe σ (own.map (·.2))).length = σ8.length := by rw [← wp8, wipe_length]
      refine ⟨m', hm, i + 1, it, H', (I'.pins_of (pins' := []) (fun p hp => by simp at hp)).weak len (fun j v e => by rw [← wp8] at e; exact (wipe_some e).1), z1.2.1, ⟨z2.2.1, fit.2.1, fit.2.2.1, fit.2.2.2⟩, hai, as6.keep (fun o e => ?_) (fun o e => ?_) (hg'.trans hst.symm), w'⟩
      · rw [ea] at e; cases e; exact z1.1
      · rw [ei] at e; cases e; exact z2.1
    refine wpAny_mono (kept_asleep (X := X.blk sb Hb0 scope be []) (E := fun _ _ => False) (q := fun _ σ8 H8 _ => wipe σ8 (own.map (·.2)) = wipe σ (own.map (·.2)) ∧ tt σ8 H8 fun b Hc => if b = true then te σ8 Hc fun y Hd => ∃ acc, Hd L = some (.lst acc) ∧ acc.length < sizeLine ∧ Nx (upd Hd L (.lst (acc ++ [y]))) else Nx Hc) I7 hst hsl fun s0 I0 => wpAny_mono (gT.run _ s0 _ H5 x u _ I0 rx step) (fun _ s1 ⟨σ8, H8, I8, z⟩ => ⟨σ8, H8, I8, fun _ _ => z⟩) fun _ _ z => z) (fun _ s8 z8 => ?_) fun _ _ z => z.elim
    obtain ⟨σ8, H8, I8, ⟨wp8, q8⟩, g8⟩ := z8
    refine wpAny_mono (kept_asleep (X := X.blk sb Hb0 scope be []) (E := fun _ _ => False) (q := fun b σ9 H9 _ => wipe σ9 (own.map (·.2)) = wipe σ (own.map (·.2)) ∧ if b = true then te σ9 H9 fun y Hd => ∃ acc, Hd L = some (.lst acc) ∧ acc.length < sizeLine ∧ Nx (upd Hd L (.lst (acc ++ [y]))) else Nx H9) I8 g8 hsl fun s0 I0 => wpAny_mono (gI.run _ s0 σ8 H8 _ I0 q8) (fun b s1 ⟨H9, I9, z⟩ => ⟨σ8, H9, I9, fun _ _ => ⟨wp8, z⟩⟩) fun _ _ z => z) (fun b s9 z9 => ?_) fun _ _ z => z.elim
    obtain ⟨σ9, H9, I9, ⟨wp9, q9⟩, g9⟩ := z9
    cases b with
    | false =>
      simp only [Bool.false_eq_true, if_false] at q9 ⊢
      exact fin wp9 I9 g9 q9
    | true =>
      simp only [if_true] at q9 ⊢
      refine wpAny_mono (kept_asleep (X := X.blk sb Hb0 scope be []) (E := fun _ _ => False) (q := fun z σa Ha _ => σa = σ9 ∧ ∃ yv, RelV yv z ∧ ∃ acc, Ha L = some (.lst acc) ∧ acc.length < sizeLine ∧ Nx (upd Ha L (.lst (acc ++ [yv])))) I9 g9 hsl fun s0 I0 => wpAny_mono (gE.run _ s0 σ9 H9 _ I0 q9) (fun z s1 ⟨yv, Ha, Ia, ra, r⟩ => ⟨σ9, Ha, Ia, fun _ _ => ⟨rfl, yv, ra, r⟩⟩) fun _ _ z => z) (fun z sa za => ?_) fun _ _ z => z.elim
      obtain ⟨σa, Ha, Ia, ⟨rfl, yv, ra, acc, hDa, hza, nx⟩, ga⟩ := za
      refine wpAny_mono (kept_asleep (X := X.blk sb Hb0 scope be []) (E := fun _ _ => False) (q := fun _ σb Hb _ => σb = σa ∧ Hb = upd Ha L (.lst (acc ++ [yv]))) Ia ga hsl fun s0 I0 => ?_) (fun _ sb zb => ?_) fun _ _ z => z.elim
      · exact app_ok (X := X.blk sb Hb0 scope be []) I0 hDa hza ra fun s1 I1 => ⟨_, _, I1, fun _ _ => ⟨rfl, rfl⟩⟩
      · obtain ⟨σb, Hb, Ib, ⟨rfl, rfl⟩, gb⟩ := zb
        exact fin wp9 Ib gb nx
  -- the walk's end
  have over : ∀ (H5 : Hp) (s6 : Shared), Inv (X.blk sb Hb0 scope be []) [] (wipe σ (own.map (·.2))) H5 s6 → Q (.ref L) H5 → compPost (model X.prog X.w) X.A X.xe use Qf (.ref L) sb.heap.objs.size (.ok .next) s6 := by
    intro H5 s6 I6 qq
    have I7 : Inv X pins σ H5 s6 := Ib.call' (ch := []) I6.os I6.base I6.hok I6.bare fun b hb => by simp at hb
    have nC : H5 be.locals = none := I6.free
    obtain ⟨m, hn, _⟩ := I6.loc
    have hn : s6.heap.Ns be.locals m := hn
    rw [lb] at hn nC
    exact back L sb.heap.objs.size s6 m H5 I7 qq hn (Ib.fpOk (Nat.le_refl _) nC)
  have loop : codeAny (model X.prog X.w) X.A (.compLoop (.ListComp elt [⟨tg, iter, ifs, 0⟩] scope pos) 0 (.ref a) (.ref L) be) (compPost (model X.prog X.w) X.A X.xe use Qf (.ref L) sb.heap.objs.size) sc := by
    refine compLoop_any (fun n s' => (n = mz ∧ s' = sc) ∨ ∃ i it H', Inv (X.blk sb Hb0 scope be []) [] (wipe σ (own.map (·.2))) H' s' ∧ H' a = none ∧ FpOk (X.blk sb Hb0 scope be []) [] H' it ∧ a ≠ it ∧ Asleep X.prog X.w X.A t xs.length a gn it i s' ∧ W i n H') ?_ mz (.inl ⟨rfl, rfl⟩)
    rintro n s5 (⟨rfl, rfl⟩ | ⟨i, it, H5, I5, na5, fit, hai, as5, w5⟩)
    · refine next_awake (X := X.blk sb Hb0 scope be []) Ic hd room aw4 ho3 cl na lk hq3 (fun x it s6 u hx rx I6 fit ka as6 => ?_) fun s6 hle I6 => ?_
      · rcases walk 0 n Hb0 wz with ⟨stop, qq⟩ | ⟨go, Nx, less, step⟩
        · have := (List.getElem?_eq_some_iff.mp hx).1
          have := stop.2
          omega
        · have hai : a ≠ it := fun z => by
            have h1 : sb.heap.objs.size ≤ it := by
              rcases fit.2.2.2.1 with y | y
              · exact absurd (show it ∈ ([] : List Addr) from y) (by simp)
              · exact y
            rw [← z] at h1
            exact absurd (Nat.lt_of_lt_of_le lta3 h1) (Nat.lt_irrefl _)
          exact wpAny_mono (rest n 0 u x it Hb0 s6 I6 fa3 fit hai as6 hx rx wz ⟨Nx, less, step x Hb0 ⟨rfl, hx⟩⟩) (fun _ _ z => wpAny_mono z (fun _ _ z => wpAny_mono z (fun ok _ z => by
            cases ok with
            | false => simp only [Bool.false_eq_true, if_false] at z ⊢; exact z.imp fun m z => ⟨z.1, .inr z.2⟩
            | true => simp only [if_true] at z ⊢; exact wpAny_mono z (fun _ _ z => wpAny_mono z (fun _ _ z => z.imp fun m z => ⟨z.1, .inr z.2⟩) fun _ _ z => z) fun _ _ z => z) fun _ _ z => z) fun _ _ z => z) fun _ _ z => z
      · rcases walk 0 n Hb0 wz with ⟨stop, qq⟩ | ⟨go, _⟩
        · exact over Hb0 s6 I6 qq
        · have := go.2; omega
    · rcases walk i n H5 w5 with ⟨stop, qq⟩ | ⟨go, Nx, less, step⟩
      · refine next_asleep (X := X.blk sb Hb0 scope be []) I5 hd room fit hai as5 stop.1 (fun x s6 u hx _ _ _ _ => ?_) fun s6 hle I6 => over H5 s6 I6 qq
        have := (List.getElem?_eq_some_iff.mp hx).1
        have := stop.2
        omega
      · refine next_asleep (X := X.blk sb Hb0 scope be []) I5 hd room fit hai as5 go.1 (fun x s6 u hx rx I6 ka as6 => ?_) fun s6 hle I6 => ?_
        · exact wpAny_mono (rest n i u x it H5 s6 I6 na5 fit hai as6 hx rx w5 ⟨Nx, less, step x H5 ⟨rfl, hx⟩⟩) (fun _ _ z => wpAny_mono z (fun _ _ z => wpAny_mono z (fun ok _ z => by
            cases ok with
            | false => simp only [Bool.false_eq_true, if_false] at z ⊢; exact z.imp fun m z => ⟨z.1, .inr z.2⟩
            | true => simp only [if_true] at z ⊢; exact wpAny_mono z (fun _ _ z => wpAny_mono z (fun _ _ z => z.imp fun m z => ⟨z.1, .inr z.2⟩) fun _ _ z => z) fun _ _ z => z) fun _ _ z => z) fun _ _ z => z) fun _ _ z => z
        · have := go.2; omega
  exact codeAny_compStart_list loop (wpAny_pyIter_gen aw4.1 loop)
end
end GenS
set_option Elab.async false
set_option linter.all false
set_option maxRecDepth 100000
set_option maxHeartbeats 2000000
namespace GenS
open PySem PySem.Spec PyProof.Rows L2 GenW

/-- o.m(), a generator method that hands on the tuple of o's attribute fld -/
def iGen (K : PySem.W.Frag) (ta : TE) (C : Addr) (m fld : Str) : TI := fun σ H R => ta σ H fun x H1 => ∃ ob dx fs t xs, x = .ref ob ∧ H1 ob = some (.ins C dx fs) ∧ fs.lookup m = none ∧ fs.lookup fld = some (.ref t) ∧ SqT K H1 t xs ∧ R (Itg K t xs) H1
/-- the def of such a method -/
structure GDef (K : PySem.W.Frag) (C : Addr) (m fld : Str) : Prop where
  all : ∃ (qual x : Str) (st : Stmt) (f : Addr) (fd : FuncData) (p1 p2 yp pos : Pos), L2.Fun K m qual st f fd ∧ Meth K C m f ∧ Binds K fd [x] [] ∧ defBody st = [.Expr (.YieldFrom (.Attribute (.Name x p1) fld p2) yp) pos] ∧
    (defScope st).kind = .function ∧ (defScope st).isCoroutine = false ∧ (defScope st).isGenerator = true ∧ (defScope st).names.lookup x = some .local ∧ (x == ("__debug__" : Str)) = false ∧ NoAttr K C fld
section
variable {X : Cx} {o : Expr} {ta : TE} {C : Addr} {m fld : Str} {apos pos' : Pos}
theorem pig_meth0 {k : Nat} {pl : Sem Bool} (he : PE X o ta) (c : Cls X.K C) (D : GDef X.K C m fld) (hr : Room k X.A)
    (ht : eval (.Call (.Attribute o m apos) [] [] pos') X.env = (do
      let ov ← eval o X.env
      standAt apos.atName
      let (f, first) ← holding [ov] (getMethod ov m pl)
      callWith pos' f first (backTo pos' (starEach [] X.env)) (backToKw pos' (keywordEach [] X.env))) := by rfl) :
    PIG X (.Call (.Attribute o m apos) [] [] pos') (iGen X.K ta C m fld) := by
  obtain ⟨qual, x, st, f, fd, p1, p2, yp, pos, F, hm, hb, hbody, hk, hco, hgen, hx, hdb, na⟩ := D
  refine ⟨fun pins s σ H R I h => ?_⟩
  refine PySem.W.methodCall_KW (pl := pl) (thn (he.run pins s σ H _ I h) fun u s1 z => ?_) ht
  obtain ⟨v, H1, I1, rx, ob, dx, fs, t, xs, rfl, ea, lm, lf, hq, hR⟩ := z
  obtain rfl : u = Value.ref ob := rx
  refine getmeth_ok I1 ea c hm lm ?_
  refine PySem.W.callWith_K0 (first := [.ref ob]) I1.kIn hm.kp ?_
  obtain ⟨oc, od, kV, doc, pm, an, cdv, ct, osl, rfl, lk, hcd⟩ := F.ex
  refine wpAny_call (codeAny_call_generator hr.depth (I1.kIn _ _ lk) rfl hco hgen (by show FuncBody.stmts (defBody st) = _; rw [hbody]) (PySem.W.codeRec_of I1.kIn hcd) (hb s1 [.ref ob] I1.kIn rfl _ _ _ _ ?_))
  refine wpAny_newFunctionEnv_cells hk (fun y hy => ?_) fun env he2 s2 xx => ?_
  · have e : y = (x, Value.ref ob) := by simpa using hy
    rw [e]
    exact .inl hx
  have lim : s2.heap.NoLimit := I1.nolimit.keeps xx.toInCall.keep
  refine ⟨lim, ?_⟩
  obtain ⟨h2, tk, es2, hk2⟩ := xx.done
  have sz : s1.heap.objs.size ≤ s2.heap.objs.size := by
    have := xx.toInCall.ns.lt
    rw [he2] at this
    exact Nat.le_of_lt this
  have g2 : s2.gens = s1.gens := by rw [es2]
  have kp : ∀ (go : Obj) b o, s1.heap.get? b = some o → (s2.heap.push go).get? b = some o := fun go b o e => Heap.get?_push_of_some _ (xx.toInCall.keep b o e)
  generalize hgo : ({ cls := .type "generator", data := .fields #[.int s2.gens.size 0, .str m s2.toks, .str qual (s2.toks + 1)] } : Obj) = go
  have hIG : ∀ h : Heap, h.get? s2.heap.objs.size = some go → h.IsGen s2.heap.objs.size s2.gens.size := fun h e => ⟨go, .str m s2.toks, .str qual (s2.toks + 1), e, by rw [← hgo], by rw [← hgo], by rw [← hgo]⟩
  have hpu : (s2.heap.push go).get? s2.heap.objs.size = some go := by
    rw [← hgo]
    exact Heap.get?_push_size _ rfl
  have I3 : Inv X pins σ H1 { s2 with gens := s2.gens.push (.fresh (.func [.Expr (.YieldFrom (.Attribute (.Name x p1) fld p2) yp) pos] env)), toks := s2.toks + 1 + 1, heap := s2.heap.push go } :=
    I1.call' (ch := []) (by rw [es2]) (Un.kept (kp go)) (I1.hok.kept (kp go)) (AllBare.push (by rw [g2]; exact I1.bare) rfl) fun b hb => by simp at hb
  have hcl : env.scope.kind = .function := by rw [he2]; exact hk
  have hIA : Awake0 ob fld s2.heap.objs.size s2.gens.size { s2 with gens := s2.gens.push (.fresh (.func [.Expr (.YieldFrom (.Attribute (.Name x p1) fld p2) yp) pos] env)), toks := s2.toks + 1 + 1, heap := s2.heap.push go } := by
    refine ⟨hIG _ hpu, env, x, p1, p2, yp, pos, _, Array.getElem?_push_size .., hcl, by rw [he2]; exact hx, (xx.toInCall.ns).push go, ?_, by unfold interactive; rw [hcl]; rfl, hdb⟩
    exact bindL_get (by simp) (i := 0) rfl rfl (by rw [he2]; exact hx)
  have fr : H1 s2.heap.objs.size = none := I1.hok.fresh sz
  exact wpAny_pyIter_gen (hIG _ hpu) ⟨_, rfl, ⟨s2.gens.size, ob, C, dx, t, fld, fs, xs, H1, I3, hIA, I1.fpOk sz fr, ea, c, na, lf, hq, hR⟩⟩
end
section
variable {X : Cx} {k : Nat} {elt tg iter : Expr} {ifs : List Expr} {scope : Scope} {own : List (Str × Nat)} {wi : TI} {g : TG} {tt : TT} {te : TE}
/-- what a comprehension's block is asked of its target, its tests, its element -/
structure LcBody (X : Cx) (elt tg : Expr) (ifs : List Expr) (scope : Scope) (g : TG) (tt : TT) (te : TE) : Prop where
  tg : ∀ s H C cl, PG (X.blk s H scope (compEnvC scope cl C X.env) []) tg g
  ts : ∀ s H C cl, PTs (X.blk s H scope (compEnvC scope cl C X.env) []) ifs tt
  el : ∀ s H C cl, PE (X.blk s H scope (compEnvC scope cl C X.env) []) elt te
theorem pe_lcG {pos : Pos} (hr : Room k X.A) (hN : X.N.Nodup) (hi : PIG X iter wi) (ok : BlkOk X.N X.env.scope scope own) (B : LcBody X elt tg ifs scope g tt te) (hs : ∀ x, foldedSetIterable iter X.env x = pure x := by intro _; rfl) :
    PE X (.ListComp elt [⟨tg, iter, ifs, 0⟩] scope pos) (tLc wi g tt te (own.map Prod.snd)) where
  run pn s σ H Q I hw := by
    rw [eval_ListComp]
    exact lcG_core hr.hd hr.depth hN I hi ok B.tg B.ts B.el hs hw fun D C s1 m H1 I1 q hn ⟨nf, nl, _, yo, nc, np⟩ =>
      ⟨m, hn, fun _ sb => ⟨.ref D, H1, I1.turned (t' := s1.toks) (fun b _ hb e => (sb.2 b hb).trans e) nf nl yo nc np, rfl, q⟩⟩
theorem ps_setLcG {i : Nat} {y : Str} {py pos spos : Pos} (hr : Room k X.A) (hN : X.N.Nodup) (hy : X.N[i]? = some y) (hyl : X.env.scope.names.lookup y = some .local) (hsw : swapsWith (.ListComp elt [⟨tg, iter, ifs, 0⟩] scope pos) (some (.Name y py)) spos.line X.env = pure true)
    (hi : PIG X iter wi) (ok : BlkOk X.N X.env.scope scope own) (B : LcBody X elt tg ifs scope g tt te) (hs : ∀ x, foldedSetIterable iter X.env x = pure x := by intro _; rfl) :
    PS X (.Assign [.Name y py] (.ListComp elt [⟨tg, iter, ifs, 0⟩] scope pos) spos) (tAsg (tLc wi g tt te (own.map Prod.snd)) (gName i)) where
  run pn s σ H D I hw := by
    have hw : tLc wi g tt te (own.map Prod.snd) σ H fun x H1 => gName i x σ H1 D.nx := hw
    rw [exec_Assign_Name_used _ _ _ _ hsw]
    refine wpAny_bind (wpAny_standAt (wpAny_bind (wpAny_bind ?_)))
    have core := lcG_core (Qf := fun _ s1 => SP X pn D .next s1) (pos := pos) (pos' := firstIterPos [⟨tg, iter, ifs, 0⟩] pos) (use := some (assign (.Name y py) X.env)) hr.hd hr.depth hN I hi ok B.tg B.ts B.el hs hw fun L C s1 m H1 I1 q hn ⟨nf, nl, _, yo, nc, np⟩ => by
      show wpAny _ _ (assign (.Name y py) X.env (.ref L)) _ _ _
      refine wpAny_assign_Name (store_ok2 (v := V.ref L) I1 hN hy (.inl hyl) rfl (fun s2 I2 ⟨b, sb, hb⟩ => ?_) (.inr hyl))
      have hne : C ≠ b := hb.elim (fun z => z ▸ nl) fun z e => nc y b z e.symm
      exact ⟨m, hn.sameBut sb hne, fun _ sb3 => ⟨_, H1, I2.turned (t' := s2.toks) (fun c _ hc e => (sb3.2 c hc).trans e) nf nl yo nc np, q⟩⟩
    exact thn core fun _ _ hq => wpAny_pure (wpAny_pure hq)
end
end GenS
set_option Elab.async false
set_option linter.all false
set_option maxRecDepth 100000
namespace Mir
open PySem PySem.Spec PyProof.Rows L2
variable [Nm]
/-! ### a given list of ints beside lists that change: another one, or a constant -/
abbrev Sep (K : PySem.W.Frag) (a : Addr) (A : List Addr) (ns : List Int) : Prop := a ∉ A ∨ ∀ H', Lq K rI H' a ns
section
variable {K : PySem.W.Frag} {H H' : Hp} {a p : Addr} {A : List Addr} {ns : List Int}
theorem sep_new (h : Lq K rI H a ns) (n : H p = none) : Sep K a [p] ns := by
  obtain ⟨vs, h1, h2⟩ := h
  rcases h1 with (z | ⟨o, z⟩) | z
  · exact .inl fun e => by rw [List.mem_singleton.mp e, n] at z; cases z
  · exact .inl fun e => by rw [List.mem_singleton.mp e, n] at z; cases z
  · exact .inr fun _ => ⟨vs, .inr z, h2⟩
theorem sep0 : Sep K a [] ns := .inl (by simp)
theorem sep1 (s : Sep K a [p] ns) (t : Sep K a A ns) : Sep K a (p :: A) ns := by
  rcases s with s | s
  · rcases t with t | t
    · exact .inl fun z => (List.mem_cons.mp z).elim (fun e => s (by rw [e]; simp)) t
    · exact .inr t
  · exact .inr s
theorem Lq.gS (g : Gr A H H') (s : Sep K a A ns) (h : Lq K rI H a ns) : Lq K rI H' a ns := s.elim (fun n => Lq.gA g n h) fun q => q H'
theorem Lq.fzS (f : Fz p H H') (s : Sep K a [p] ns) (h : Lq K rI H a ns) : Lq K rI H' a ns := s.elim (fun n => by
  obtain ⟨vs, h1, h2⟩ := h
  have ne : a ≠ p := fun e => n (by rw [e]; simp)
  rcases h1 with (z | ⟨o, z⟩) | z
  · exact ⟨vs, .inl (.inl (f.ne _ _ ne z)), h2⟩
  · exact ⟨vs, .inl (.inr ⟨o, f.ne _ _ ne z⟩), h2⟩
  · exact ⟨vs, .inr z, h2⟩) fun q => q H'
end
end Mir
namespace Mir
open PySem PySem.Spec PyProof.Rows L2
variable [Nm]
/-! ### what a generator method hands on -/
def genA (K : PySem.W.Frag) (C : Addr) (m fld : Str) (R : It → Hp → Prop) (v : V) (H : Hp) : Prop := ∃ ob dx fs t xs, v = .ref ob ∧ H ob = some (.ins C dx fs) ∧ fs.lookup m = none ∧ fs.lookup fld = some (.ref t) ∧ SqT K H t xs ∧ R (GenS.Itg K t xs) H
theorem rd_igen {K : PySem.W.Frag} {ta : TE} {C : Addr} {m fld : Str} {σ : L2.St} {H : Hp} {R : It → Hp → Prop} (h : ta σ H (genA K C m fld R)) : GenS.iGen K ta C m fld σ H R := h
theorem pig_meth0K {X : Cx} {K : PySem.W.Frag} {o : Expr} {ta : TE} {C : Addr} {m fld : Str} {apos pos' : Pos} {k : Nat} {pl : Sem Bool} (e : X.K = K) (he : PE X o ta) (c : Cls K C) (D : GenS.GDef K C m fld) (hr : Room k X.A)
    (ht : eval (.Call (.Attribute o m apos) [] [] pos') X.env = (do
      let ov ← eval o X.env
      standAt apos.atName
      let z ← holding [ov] (getMethod ov m pl)
      callWith pos' z.1 z.2 (backTo pos' (starEach [] X.env)) (backToKw pos' (keywordEach [] X.env))) := by rfl) :
    GenS.PIG X (.Call (.Attribute o m apos) [] [] pos') (GenS.iGen K ta C m fld) := by
  subst e
  exact GenS.pig_meth0 (pl := pl) he c D hr ht
theorem wk_gen {α : Type} {K : PySem.W.Frag} {r : Rp α} {H0 : Hp} {a : Addr} {xs : List α} {vs : List V} [Imm r] (hp : Paired (r H0) xs vs) : Wk (GenS.Itg K a vs) xs (fun H => SqT K H a vs) r H0 := ⟨YAt vs, by rw [Paired.length hp]; exact GenS.walk_gen, fun A i H v H' g hi ⟨e, ev⟩ => by
  obtain ⟨x, hx, hr⟩ := Paired.get1 hp ev
  exact ⟨x, hx, by rw [e]; exact Gr.refl _, by rw [e]; exact Imm.mono g hr⟩⟩
end Mir
namespace Mir
open PySem PySem.Spec PyProof.Rows L2
variable [Nm]
section
variable {α : Type} [DecidableEq α] {K : PySem.W.Frag} {r : Rp α}
/-- a datum that is never None -/
abbrev NotNone (d : DRep K r) : Prop := ∀ x, PyData.eqv .none (d.enc x) = false ∧ PyData.eqv (d.enc x) .none = false
def DRep.opt (d : DRep K r) (nn : NotNone d) : DRep K (rO r) where
  enc o := match o with
    | none => .none
    | some x => d.enc x
  dp {H x v} h := by
    cases x with
    | none => rw [show v = V.non from h]; exact .non
    | some x => exact d.dp h.2
  lay x := by
    cases x with
    | none => rw [PyData.canLay0]
    | some x => exact d.lay x
  dep := d.dep
  dep_le x := by
    cases x with
    | none => show PyData.depth .none ≤ _; rw [PyData.depth]; exact Nat.zero_le _
    | some x => exact d.dep_le x
  eqv x y := by
    cases x with
    | none => cases y with
      | none => simp [PyData.eqv]
      | some y => show PyData.eqv .none (d.enc y) = _; rw [(nn y).1]; simp
    | some x => cases y with
      | none => show PyData.eqv (d.enc x) .none = _; rw [(nn x).2]; simp
      | some y => show PyData.eqv (d.enc x) (d.enc y) = _; rw [d.eqv]; simp
theorem nnI : NotNone (DRep.int K) := fun x => ⟨by show PyData.eqv .none (.int x) = _; simp [PyData.eqv], by show PyData.eqv (.int x) .none = _; simp [PyData.eqv]⟩
theorem nnT (d : DRep K r) : NotNone (DRep.tup d) := fun x => ⟨by show PyData.eqv .none (.tuple _) = _; simp [PyData.eqv], by show PyData.eqv (.tuple _) .none = _; simp [PyData.eqv]⟩
end
end Mir
namespace Mir
open PySem PySem.Spec PyProof.Rows L2
variable [Nm]
/-- its data are never None -/
class NoN {α : Type} (r : Rp α) : Prop where
  nn : ∀ {H : Hp} {x : α} {v : V}, r H x v → v ≠ .non
section
variable {α β γ : Type} {K : PySem.W.Frag} {r : Rp α} {s : Rp β} {t : Rp γ}
instance : NoN (rT K r) := ⟨fun ⟨a, e, _⟩ z => by rw [e] at z; cases z⟩
instance : NoN (rP K r s) := ⟨fun ⟨a, x, y, e, _⟩ z => by rw [e] at z; cases z⟩
instance : NoN (rP3 K r s t) := ⟨fun ⟨a, x, y, w, e, _⟩ z => by rw [e] at z; cases z⟩
theorem rO_some' [NoN r] {H : Hp} {x : α} {v : V} (h : r H x v) : rO r H (some x) v := ⟨NoN.nn h, h⟩
end
end Mir
namespace Mir
open PySem PySem.Spec PyProof.Rows L2
variable [Nm]
section
variable {K : PySem.W.Frag} {H : Hp} {p : Addr} {ns : List Int} {i : Int} {v : V} {Q : VK}
theorem flatV_ints {vs : List V} (h : Paired (rI H) ns vs) : vs.all flatV = true := by
  rw [ints_of h, List.all_eq_true]
  intro x hx
  obtain ⟨n, _, rfl⟩ := List.mem_map.mp hx
  rfl
theorem inV_map : ∀ ns : List Int, inV (.int i) (ns.map V.int) = ns.contains i
  | [] => rfl
  | n :: ns => by
    show ((n == i) || inV (.int i) (ns.map V.int)) = _
    rw [inV_map ns, List.contains_cons]
    congr 1
    by_cases h : n = i
    · rw [h]
    · rw [beq_eq_false_iff_ne.mpr h, beq_eq_false_iff_ne.mpr (Ne.symm h)]
theorem inV_ints {vs : List V} (h : Paired (rI H) ns vs) : inV (.int i) vs = ns.contains i := by
  rw [ints_of h, inV_map]
theorem inL_I (h : Lq K rI H p ns) (q : Q (.bl (ns.contains i)) H) : rIn K false (.int i) (.ref p) H Q := by
  obtain ⟨vs, h1, h2⟩ := h
  exact ⟨p, vs, rfl, .inl h1, rfl, flatV_ints h2, by rw [inV_ints h2]; exact q⟩
theorem niL_I (h : Lq K rI H p ns) (q : Q (.bl (!(ns.contains i))) H) : rIn K true (.int i) (.ref p) H Q := by
  obtain ⟨vs, h1, h2⟩ := h
  exact ⟨p, vs, rfl, .inl h1, rfl, flatV_ints h2, by rw [inV_ints h2]; exact q⟩
theorem inT_I (h : rT K rI H ns v) (q : Q (.bl (ns.contains i)) H) : rIn K false (.int i) v H Q := by
  obtain ⟨p, rfl, vs, h1, h2⟩ := h
  exact ⟨p, vs, rfl, .inr h1, rfl, flatV_ints h2, by rw [inV_ints h2]; exact q⟩
theorem niT_I (h : rT K rI H ns v) (q : Q (.bl (!(ns.contains i))) H) : rIn K true (.int i) v H Q := by
  obtain ⟨p, rfl, vs, h1, h2⟩ := h
  exact ⟨p, vs, rfl, .inr h1, rfl, flatV_ints h2, by rw [inV_ints h2]; exact q⟩
end
end Mir
set_option Elab.async false
set_option linter.all false
set_option maxRecDepth 100000
namespace Mir
open PySem PySem.Spec PyProof.Rows L2
variable [Nm]
/-! ### what is called with fewer arguments than it has -/
def CalD (P : Program) (w : World) (K : PySem.W.Frag) (mg : Str → Option Value) (base : Heap) (CX : CXT) (k : Nat) (x : Str) (ps : List Str) (dvs : List V) (sp : Sp) : Prop :=
  ∃ (f : Addr) (fd : FuncData) (ds : List Value), FnOk P w K mg base CX k f fd ps sp ∧ mg x = some (.ref f) ∧ PySem.W.keepIn K (.ref f) = true ∧ Binds K fd ps ds ∧ Vals dvs ds
def CalMD (P : Program) (w : World) (K : PySem.W.Frag) (mg : Str → Option Value) (base : Heap) (CX : CXT) (k : Nat) (C : Addr) (m : Str) (ps : List Str) (dvs : List V) (sp : Sp) : Prop :=
  ∃ (f : Addr) (fd : FuncData) (ds : List Value), FnOk P w K mg base CX k f fd ps sp ∧ Meth K C m f ∧ Binds K fd ps ds ∧ Vals dvs ds
def CalID (P : Program) (w : World) (K : PySem.W.Frag) (mg : Str → Option Value) (base : Heap) (CX : CXT) (k : Nat) (C : Addr) (x : Str) (ps : List Str) (dvs : List V) (sp : Sp) : Prop :=
  ∃ (f : Addr) (fd : FuncData) (ds : List Value), FnOk P w K mg base CX k f fd ps sp ∧ Mk K C f ∧ mg x = some (.ref C) ∧ Binds K fd ps ds ∧ Vals dvs ds
theorem dtI {K : PySem.W.Frag} {a : Addr} {o : Obj} {its : Array Value} {n : Nat} {ns : List Int} (h : K.lookup a = some o) (hc : o.cls = .type "tuple") (hd : o.data = .seq its n) (hs : its.size ≤ sizeLine) (hv : Vals (ns.map V.int) its.toList) (H : Hp) : rT K rI H ns (.ref a) :=
  ⟨a, rfl, _, .inr ⟨o, its, n, h, hc, hd, hs, hv⟩, of_ints⟩
def spD (sp : Sp) (dvs : List V) : Sp := fun vs H Q E => sp (vs ++ dvs) H Q E
def spM (sp : Sp) (dvs : List V) : Sp := fun vs H Q E => sp (vs ++ dvs) H Q E
section
variable {X : Cx} {CX : CXT} {k : Nat} {f C : Addr} {fd : FuncData} {ps : List Str} {sp : Sp} {dvs : List V} {ds : List Value} {E : L2.St → XK} {x m : Str} {p pos apos : Pos} {e o : Expr} {es : List Expr} {ta : TE} {t : TA}
theorem pe_callSD (v : Vals dvs ds) (F : FnOk X.prog X.w X.K X.mg X.base CX k f fd ps sp) (hr : Room k X.A) (hg : Gl X x) (hm : X.mg x = some (.ref f)) (hk : PySem.W.keepIn X.K (.ref f) = true) (hb : Binds X.K fd ps ds) (hx : ∀ σ, PassesAt CX X σ (E σ))
    (ha : PA X (e :: es) t) (hdb : (x == ("__debug__" : Str)) = false := by decide) (he : starEach (e :: es) X.env = (false, eval e X.env) :: starEach es X.env := by rfl) (hpl : (backTo pos (starEach es X.env)).any (·.1) = false := by rfl) :
    PE X (.Call (.Name x p) (e :: es) [] pos) (tCallS (spD sp dvs) E t) := L2.pe_callSD F hr hg hm hk hb v hx ha hdb he hpl
theorem pe_methSD (v : Vals dvs ds) {pl : Sem Bool} (he : PE X o ta) (c : Cls X.K C) (hm : Meth X.K C m f) (F : FnOk X.prog X.w X.K X.mg X.base CX k f fd ps sp) (hr : Room k X.A) (hb : Binds X.K fd ps ds) (hx : ∀ σ, PassesAt CX X σ (E σ)) (ha : PA X (e :: es) t)
    (hst : starEach (e :: es) X.env = (false, eval e X.env) :: starEach es X.env := by rfl) (hpl : (backTo pos (starEach es X.env)).any (·.1) = false := by rfl)
    (ht : eval (.Call (.Attribute o m apos) (e :: es) [] pos) X.env = (do
      let ov ← eval o X.env
      standAt apos.atName
      let (f, first) ← holding [ov] (getMethod ov m pl)
      callWith pos f first (backTo pos (starEach (e :: es) X.env)) (backToKw pos (keywordEach [] X.env))) := by rfl) :
    PE X (.Call (.Attribute o m apos) (e :: es) [] pos) (tMethS C m (spM sp dvs) E ta t) := by
  refine ⟨fun pins s σ H Q I h => ?_⟩
  refine PySem.W.methodCall_KW (pl := pl) (thn (he.run pins s σ H _ I h) fun u s1 hh => ?_) ht
  obtain ⟨y, H1, I1, rx, a, dx, fs, ex, ea, l, q⟩ := hh
  subst ex
  obtain rfl : u = Value.ref a := rx
  refine getmeth_ok I1 ea c hm l ?_
  refine PySem.W.callWith_K (first := [.ref a]) (h₀ := X.base) I.ok.mod.kin hm.kp (thn (ha.run pos pins s1 σ H1 _ I1 q) fun us s2 hh => ?_) hst hpl
  obtain ⟨vs, H2, I2, r, q2⟩ := hh
  exact ⟨I2.kIn, run_fnSD (us := .ref a :: us) (vs := .ref a :: vs) F hr hb v (hx σ) I2 (.cons rfl r) q2⟩
theorem pe_methS0D (v : Vals dvs ds) {pl : Sem Bool} (he : PE X o ta) (c : Cls X.K C) (hm : Meth X.K C m f) (F : FnOk X.prog X.w X.K X.mg X.base CX k f fd ps sp) (hr : Room k X.A) (hb : Binds X.K fd ps ds) (hx : ∀ σ, PassesAt CX X σ (E σ))
    (ht : eval (.Call (.Attribute o m apos) [] [] pos) X.env = (do
      let ov ← eval o X.env
      standAt apos.atName
      let (f, first) ← holding [ov] (getMethod ov m pl)
      callWith pos f first (backTo pos (starEach [] X.env)) (backToKw pos (keywordEach [] X.env))) := by rfl) :
    PE X (.Call (.Attribute o m apos) [] [] pos) (tMethS C m (spM sp dvs) E ta tNil) := by
  refine ⟨fun pins s σ H Q I h => ?_⟩
  refine PySem.W.methodCall_KW (pl := pl) (thn (he.run pins s σ H _ I h) fun u s1 hh => ?_) ht
  obtain ⟨y, H1, I1, rx, a, dx, fs, ex, ea, l, q⟩ := hh
  subst ex
  obtain rfl : u = Value.ref a := rx
  refine getmeth_ok I1 ea c hm l ?_
  exact PySem.W.callWith_K0 (first := [.ref a]) I1.kIn hm.kp (run_fnSD (us := [.ref a]) (vs := [.ref a]) F hr hb v (hx σ) I1 (.cons rfl .nil) q)
theorem pe_makeSD (v : Vals dvs ds) (M : Mk X.K C f) (F : FnOk X.prog X.w X.K X.mg X.base CX k f fd ps sp) (hr : Room (k + 1) X.A) (hg : Gl X x) (hm : X.mg x = some (.ref C)) (hb : Binds X.K fd ps ds) (hx : ∀ σ, PassesAt CX X σ (E σ))
    (ha : PA X (e :: es) t) (hdb : (x == ("__debug__" : Str)) = false := by decide) (he : starEach (e :: es) X.env = (false, eval e X.env) :: starEach es X.env := by rfl) (hpl : (backTo pos (starEach es X.env)).any (·.1) = false := by rfl) :
    PE X (.Call (.Name x p) (e :: es) [] pos) (tMakeS C (spM sp dvs) E t) := by
  refine ⟨fun pins s σ H Q I h => ?_⟩
  refine wpAny_Call_Name_kw (ld_glob I hg hm ?_ hdb)
  refine PySem.W.callWith_K (h₀ := X.base) I.ok.mod.kin M.kp (thn (ha.run pos pins s σ H _ I h) fun us s1 hh => ?_) he hpl
  obtain ⟨vs, H1, I1, r, q⟩ := hh
  refine ⟨I1.kIn, ?_⟩
  have hq := q (s1.heap.objs.size + 1) s1.heap.objs.size (I1.hok.fresh (Nat.le_succ _)) (I1.hok.fresh (Nat.le_refl _)) (Nat.ne_of_lt (Nat.lt_succ_self _))
  have I2 := Inv.made (C := C) I1
  have r2 : Vals ((V.ref (s1.heap.objs.size + 1) :: vs) ++ dvs) ((Value.ref (s1.heap.objs.size + 1) :: us) ++ ds) := Vals.append (.cons rfl r) v
  have hl : ((Value.ref (s1.heap.objs.size + 1) :: us) ++ ds).length = ps.length := by
    have z := r2.length
    rw [F.len _ _ _ _ hq] at z
    exact z.symm
  have b := hb _ (Value.ref (s1.heap.objs.size + 1) :: us) I2.kIn hl
  refine wpAny_call (make_map (f := f) I1.kIn M.makes M.init (beq_iff_eq.mp M.fn) (codeAny_mono (F.run _ X.stack _ _ ⟨Value.ref (s1.heap.objs.size + 1) :: us, []⟩ ((Value.ref (s1.heap.objs.size + 1) :: us) ++ ds) _ _ (E σ) (hr.make C us [])
    (I2.env0.make C us []) b r2 hq) fun r s' hq' => ?_))
  cases r with
  | error e => exact hx σ pins _ _ e s' I2 hq'
  | ok fl =>
    cases fl with
    | ret u =>
      obtain ⟨y, H', I3, rv, ev, q3⟩ := I2.after hq'
      subst ev
      exact ⟨rv, ⟨V.ref (s1.heap.objs.size + 1), H', I3, rfl, q3⟩⟩
    | next => exact False.elim hq'
    | brk => exact False.elim hq'
    | cont => exact False.elim hq'
end
/-! ### x in l, items of any depth -/
def rInX (K : PySem.W.Frag) (neg : Bool) : R2 := fun x y H Q => ∃ d ds, Dp K H x d ∧ (Dp K H y (.list ds) ∨ Dp K H y (.tuple ds)) ∧ SeqAt.shaped d = true ∧ PyData.canLayAll0 ds = true ∧ Q (.bl (if neg then !(ds.any fun z => PyData.eqv z d) else ds.any fun z => PyData.eqv z d)) H
section
variable {X : Cx} {K : PySem.W.Frag} {α : Type} [DecidableEq α] {r : Rp α} {H : Hp} {x : α} {xs : List α} {v w : V} {a : Addr} {Q : VK}
theorem inXK (hu : X.A.units + 65 < cLine) (e : X.K = K) : OpR X (compareOp .In) (rInX K false) := by
  subst e
  intro pins s σ H x y v u Q I rx ry h
  obtain ⟨d, ds, hd, he, sd, se, q⟩ := h
  obtain ⟨as, r1⟩ := Dp.reads I d x v hd rx
  rcases he with he | he
  · obtain ⟨bs, r2⟩ := Dp.reads I (.list ds) y u he ry
    exact SeqAt.in_list_reads r2 r1 se (SeqAt.canLay_of_shaped sd) (room_in_shaped sd hu) ⟨.bl _, H, I, rfl, q⟩
  · obtain ⟨bs, r2⟩ := Dp.reads I (.tuple ds) y u he ry
    exact SeqAt.in_tuple_reads r2 r1 se (SeqAt.canLay_of_shaped sd) (room_in_shaped sd hu) ⟨.bl _, H, I, rfl, q⟩
theorem niXK (hu : X.A.units + 65 < cLine) (e : X.K = K) : OpR X (compareOp .NotIn) (rInX K true) := by
  subst e
  intro pins s σ H x y v u Q I rx ry h
  obtain ⟨d, ds, hd, he, sd, se, q⟩ := h
  obtain ⟨as, r1⟩ := Dp.reads I d x v hd rx
  rcases he with he | he
  · obtain ⟨bs, r2⟩ := Dp.reads I (.list ds) y u he ry
    exact SeqAt.notIn_list_reads r2 r1 se (SeqAt.canLay_of_shaped sd) (room_in_shaped sd hu) ⟨.bl _, H, I, rfl, q⟩
  · obtain ⟨bs, r2⟩ := Dp.reads I (.tuple ds) y u he ry
    exact SeqAt.notIn_tuple_reads r2 r1 se (SeqAt.canLay_of_shaped sd) (room_in_shaped sd hu) ⟨.bl _, H, I, rfl, q⟩
theorem un65 {k : Nat} {A : Around} (r : Room k A) : A.units + 65 < cLine := by have := r.un; omega
def isin (x : α) (xs : List α) : Bool := xs.any fun y => decide (y = x)
theorem DRep.isin (d : DRep K r) (x : α) : ∀ xs : List α, ((xs.map d.enc).any fun z => PyData.eqv z (d.enc x)) = Mir.isin x xs
  | [] => rfl
  | y :: xs => by
    show (PyData.eqv (d.enc y) (d.enc x) || _) = (decide (y = x) || Mir.isin x xs)
    rw [d.eqv, DRep.isin d x xs]
theorem inX_L (d : DRep K r) (hx : r H x v) (hxs : Lq K r H a xs) (q : Q (.bl (isin x xs)) H) (hl : d.dep ≤ 64 := by exact Nat.le_of_ble_eq_true rfl) : rInX K false v (.ref a) H Q :=
  ⟨_, _, d.dp hx, .inl ((DRep.lst d).dp (rL_of hxs)), d.sh hl x, d.layA xs, by rw [d.isin]; exact q⟩
theorem niX_L (d : DRep K r) (hx : r H x v) (hxs : Lq K r H a xs) (q : Q (.bl (!(isin x xs))) H) (hl : d.dep ≤ 64 := by exact Nat.le_of_ble_eq_true rfl) : rInX K true v (.ref a) H Q :=
  ⟨_, _, d.dp hx, .inl ((DRep.lst d).dp (rL_of hxs)), d.sh hl x, d.layA xs, by rw [d.isin]; exact q⟩
theorem inX_T (d : DRep K r) (hx : r H x v) (hxs : rT K r H xs w) (q : Q (.bl (isin x xs)) H) (hl : d.dep ≤ 64 := by exact Nat.le_of_ble_eq_true rfl) : rInX K false v w H Q :=
  ⟨_, _, d.dp hx, .inr ((DRep.tup d).dp hxs), d.sh hl x, d.layA xs, by rw [d.isin]; exact q⟩
theorem niX_T (d : DRep K r) (hx : r H x v) (hxs : rT K r H xs w) (q : Q (.bl (!(isin x xs))) H) (hl : d.dep ≤ 64 := by exact Nat.le_of_ble_eq_true rfl) : rInX K true v w H Q :=
  ⟨_, _, d.dp hx, .inr ((DRep.tup d).dp hxs), d.sh hl x, d.layA xs, by rw [d.isin]; exact q⟩
end
/-! ### ( *t, x): a tuple of the items of others -/
section
variable {K : PySem.W.Frag} {α : Type} {r : Rp α} {σ : L2.St} {H : Hp} {te : TE} {t : TA} {Q : List V → Hp → Prop} {xs ys : List α} {v : V} {a : Addr} {vs ws : List V}
def starA (K : PySem.W.Frag) (N : List V → Hp → Prop) (x : V) (H1 : Hp) : Prop := ∃ p xs, x = V.ref p ∧ (SqT K H1 p xs ∨ SqL K H1 p xs) ∧ N xs H1
theorem rd_star (h : te σ H (starA K fun xs H1 => t σ H1 fun ys H2 => Q (xs ++ ys) H2)) : StX.tStar K te t σ H Q := h
theorem star_T {N : List V → Hp → Prop} (h : rT K r H xs v) (q : ∀ vs, Paired (r H) xs vs → N vs H) : starA K N v H := by
  obtain ⟨p, rfl, vs, h1, h2⟩ := h
  exact ⟨p, vs, rfl, .inl h1, q vs h2⟩
theorem star_L {N : List V → Hp → Prop} (h : Lq K r H a xs) (q : ∀ vs, Paired (r H) xs vs → N vs H) : starA K N (.ref a) H := by
  obtain ⟨vs, h1, h2⟩ := h
  exact ⟨a, vs, rfl, .inr h1, q vs h2⟩
theorem pa_starK {X : Cx} {e : Expr} {es : List Expr} {p : Pos} (hK : X.K = K) (he : PE X e te) (hr : PA X es t) (hs : starEach (.Starred e p :: es) X.env = (true, eval e X.env) :: starEach es X.env := by rfl) : PA X (.Starred e p :: es) (StX.tStar K te t) := hK ▸ StX.pa_star he hr hs
theorem mk_TS [Imm r] {us : List V} {Q : VK} (h : Paired (r H) ys us) (l : lenOk xs) (e : ys = xs) (q : ∀ v H', Gr [] H H' → rT K r H' xs v → Q v H') : aTup us H Q := by
  subst e
  exact mk_T h (by rw [← Paired.length h]; exact l) q
end
end Mir
set_option Elab.async false
set_option linter.all false
set_option maxRecDepth 100000
namespace Mir
open PySem PySem.Spec PyProof.Rows L2 NdefX
variable [Nm]
/-! ### errors whose own __init__ says super().__init__(f".."); self.f = x -/
/-- the name's value as the text shows it -/
def FmtV (t0 : Str) (r : V) : Prop := (∃ y : Str, r = .str y ∧ strOk y ∧ strOk (Str.empty ++ t0) ∧ strOk (Str.empty ++ t0 ++ y)) ∨ ∃ i : Int, r = .int i ∧ fmtOk i ∧ strOk (Str.empty ++ t0) ∧ strOk (Str.empty ++ t0 ++ (toString i : String))
def spEI (C : Addr) (fld t0 : Str) : Sp := fun vs H Q _ => ∃ (e : Addr) (r : V), vs = [.ref e, r] ∧ H e = some (exo e C none) ∧ FmtV t0 r ∧ ∀ dx, H dx = none → dx ≠ e → Q .non (upd (upd H dx (exd dx [(fld, r)])) e (exo e C (some dx)))
section
open PySem.W
variable {X : Cx} {σ : L2.St} {H : Hp} {s : Shared} {body : List Stmt} {e C f cc cda : Addr} {fd : FuncData} {file : Str} {tf : Tok} {oc ccl cl : Value} {od cdd cld : Option Addr} {osl ccs csl : Array (Option Value)} {vs : Array Value} {ar : Arg} {a : Expr} {ta : TE} {p0 p1 p2 p7 p8 : Pos} {pl : Sem Bool}
theorem ei_super (I : Inv X [] σ H s) (he : H e = some (exo e C none)) (T : OexC X.K C) (hN : X.N[0]? = some ("self" : Str)) (hσ : σ[0]? = some (some (.ref e))) (hkl : X.env.kindOf ("self" : Str) = some .local)
    (hks : X.env.kindOf ("super" : Str) = some .globalImplicit) (hkc : X.env.kindOf ("__class__" : Str) = some .free) (hfu : X.env.func = some f) (hco : X.env.code = .ref cda) (hcc : X.env.cells.lookup ("__class__" : Str) = some cc)
    (lk : X.K.lookup f = some ⟨oc, od, .func fd, osl⟩) (hpar : (fd.params.posonlyargs ++ fd.params.args).head? = some ar) (har : ar.arg = "self")
    (hcode : X.K.lookup cda = some ⟨ccl, cdd, .fields vs, ccs⟩) (hvs : vs[2]? = some (.str file tf)) (hfile : ((X.prog.main.file : Str) == file) = true) (htop : (X.prog.main.scope.names.lookup ("super" : Str)).isSome = false)
    (hcell : X.K.lookup cc = some ⟨cl, cld, .cell (some (.ref C)), csl⟩) (hsub : PySem.W.mroIn X.K C (.ref C) = some true) (hB : PySem.W.subIn X.K (.ref C) (.type "ValueError") = some true)
    (hsuper : X.mg "super" = none) (hst : PySem.W.nsIn X.K cStatics "thirdparty.any" = some none) (hm : PySem.W.ks_superIn X.K C C "__init__" = some (some (.builtin "ValueError.__init__")))
    (hs1 : starEach [a] X.env = (false, eval a X.env) :: starEach [] X.env) (ha : PE X a ta) (hta : tCons ta tNil σ H fun vs H1 => H1 = H ∧ vs.length = 1)
    (hcall : eval (.Call (.Attribute (.Call (.Name "super" p0) [] [] p1) "__init__" p2) [a] [] p7) X.env = (do
      let ov ← attributeBase (.Call (.Name "super" p0) [] [] p1) "__init__" X.env (eval (.Call (.Name "super" p0) [] [] p1) X.env)
      standAt p2.atName
      let (f, first) ← holding [ov] (getMethod ov "__init__" pl)
      callWith p7 f first (backTo p7 (starEach [a] X.env)) [])) :
    _root_.PySem.wpAt (model X.prog X.w) X.A (.func body X.env) (exec (.Expr (.Call (.Attribute (.Call (.Name "super" p0) [] [] p1) "__init__" p2) [a] [] p7) p8) X.env) (fun fl s' => fl = .next ∧ Inv X [] σ H s') X.xe s := by
  obtain ⟨nm, q, Nn, bs, bm, sn, sub, ab, col, dd, k0, k1, k2, k3, k5, hC, hbm⟩ := id T.cls
  have hcl : PySem.W.clsIn X.K C = some { name := nm, bases := bs, mro := .ref C :: bm, ns := Nn, qualname := q, hasDict := true, slotNames := sn, subclasses := sub, abstract := ab, collection := col, hasDel := false } := by unfold PySem.W.clsIn; rw [hC] <;> rfl
  refine PySem.ks_wpAt_Expr_any (PySem.ks_wpAt_MethodCall ?_ hcall) I.quiet
  have X0 : X.K.In s.heap := I.kIn
  obtain ⟨hp, g, d, t, os⟩ := s
  refine PySem.ks_wpAt_super_base hks hkc (by decide) hfu (X0 _ _ lk) rfl hpar hco (X0 _ _ hcode) rfl hvs hfile htop ?_
  rw [har]
  obtain ⟨mb, hmb, hbb⟩ := I.ok.mod.blt
  refine PySem.W.ks_loadName_global I.ok.kind hks (PySem.Calls.loadGlobal_builtin (by rw [I.ok.glob]; exact I.mod.glob.keeps I.bk) hsuper (by rw [I.ok.blt]; exact hmb.keeps I.bk) ((hbb "super" (by decide)).trans PyProof.Rows.Boot.«super») ⟨rfl, ?_⟩)
  refine wpAny_loadName_free I.ok.kind hkc hcc ⟨_, X0 _ _ hcell, rfl⟩ ?_
  obtain ⟨m, hn, hl⟩ := id I.loc
  obtain ⟨u, ru, lu⟩ := hl 0 "self" (.ref e) hN hσ (.inl hkl)
  obtain rfl : u = .ref e := ru
  have hmv : m "self" = some (.ref e) := by
    rcases lu with ⟨_, h⟩ | ⟨h, _⟩
    · exact h
    · rw [hkl] at h
      rcases h with h | h <;> cases h
  refine wpAny_loadName_local I.ok.kind hkl hn hmv ?_
  have hCo := X0 _ _ hC
  refine PySem.ks_wpAny_isType_cls hCo rfl ⟨rfl, ?_⟩
  obtain ⟨t1, ho⟩ := exo_at I.hok he
  refine PySem.ks_wpAny_call_super hCo rfl ho rfl (fun c z => by cases z) (PySem.W.looks_mroIn X0 hsub) (fun h' e1 kk1 => ?_)
  have X1 : X.K.In h' := X0.keeps kk1
  have IA : PySem.W.InstAt h' e { cls := .ref C, dict := none, data := .fields #[.ref t1, .none, .none, .none, .bool false, .none] } C none := ⟨kk1 _ _ ho, rfl, rfl, trivial⟩
  have hm' : PySem.W.alongIn X.K "__init__" (((Value.ref C :: bm).dropWhile (· != .ref C)).drop 1) = some (some (.builtin "ValueError.__init__")) := by
    unfold PySem.W.ks_superIn at hm
    rw [hcl] at hm
    exact hm
  refine PySem.W.kxs_getMethod PySem.W.kxs_ValueError e1 (PySem.W.looks_opaque X1 hst) (l₀ := .ref C :: bm) (fun A Q E s k q => wpAny_bind ((PySem.W.looks_clsIn X1 hcl) A _ E s k (wpAny_pure q))) rfl X1 hm' (IA.type.andThen (PySem.W.looks_subIn X1 hB)) (PySem.W.ks_ne X1 IA hcl) (by decide) ?_
  have lt1 : hp.objs.size < h'.objs.size := Heap.lt_size e1
  have kk2 : ∀ b o, hp.get? b = some o → (h'.push (PySem.W.kxs_mw "ValueError.__init__" e)).get? b = some o := fun b o z => Heap.get?_push_of_some _ (kk1 b o z)
  have J : Inv X [] σ H ⟨h'.push (PySem.W.kxs_mw "ValueError.__init__" e), g, d, t + 1, os⟩ := I.kept (t' := t + 1) kk2
  have hu : (h'.push (PySem.W.kxs_mw "ValueError.__init__" e)).get? h'.objs.size = some (PySem.W.kxs_mw "ValueError.__init__" e) := Heap.get?_push_size _ rfl
  have JP : Inv X [(h'.objs.size, PySem.W.kxs_mw "ValueError.__init__" e)] σ H ⟨h'.push (PySem.W.kxs_mw "ValueError.__init__" e), g, d, t + 1, os⟩ := J.pins_of fun p hp' => by
    rw [List.mem_singleton.mp hp']
    exact ⟨hu, I.hok.fresh (Nat.le_of_lt lt1), Nat.ne_of_gt (Nat.lt_trans I.lt lt1), I.nofs (Nat.le_of_lt lt1), fun v z => by cases z⟩
  dsimp only
  rw [hs1]
  refine PySem.W.kxs_callWith (i := "ValueError.__init__") (x := e) rfl (PySem.Calls.evalArgs_plain ?_)
  show wpAny _ _ (spliced (backTo p7 ((false, eval a X.env) :: starEach [] X.env))) _ _ _
  rw [← hs1]
  refine thn ((pa_cons ha pa_nil hs1).run p7 _ _ σ H (fun vs H1 => H1 = H ∧ vs.length = 1) JP hta) fun us s1 h1 => ?_
  obtain ⟨vs1, H1, I1, r1, eH, hl1⟩ := h1
  subst eH
  obtain ⟨hu1, _⟩ := I1.pin _ (List.mem_append_right _ List.mem_cons_self)
  refine ⟨hu1, ?_⟩
  have hlen : us.length ≤ sizeLine := by rw [← Paired.length r1, hl1, sizeLine_eq]; decide
  show wpAny _ _ (call (.ref h'.objs.size) us) _ _ _
  obtain ⟨t2, ho2⟩ := exo_at I1.hok he
  obtain ⟨hp2, g2, d2, tk2, os2⟩ := s1
  have hC2 := I1.kIn _ _ hC
  have FB := PySem.F.excBase_ValueError
  refine wpAny_call (codeAny_of_tree ?_)
  show wpAny _ X.A.in1 (callAny (.ref h'.objs.size) ⟨us, []⟩) _ _ _
  simp only [callAny]
  refine wpAny_bind (wpAny_load hu1 ?_)
  simp only [PySem.W.kxs_mw, show (Value.type "method-wrapper" == Value.type "method" || Value.type "method-wrapper" == Value.type "builtin_function_or_method" || Value.type "method-wrapper" == Value.type "method-wrapper") = true by decide, if_true]
  refine PySem.W.KFB.if_so (by decide) ?_
  refine wpAny_bind (PySem.W.check_bound_init FB.toExcCallFacts hC2 ho2 rfl ?_)
  refine wpAny_bind (wpAny_pure (wpAny_pure ?_))
  refine ⟨plainId_quiet FB.init.plain _, codeAny_builtin FB.initEntry ?_⟩
  refine PySem.W.exc_init_tree (cls := .ref C) (t0 := t2) (dv := none) (c2 := .none) (c3 := .none) (b4 := .bool false) ho2 hlen fun h3 k3 e3 _ => ?_
  have J3 := I1.write (t' := tk2) (x := e) (e := e) (o := exo e C none) (h' := h3) (by rw [he]; exact True.intro) (.inl rfl) k3 ⟨_, e3⟩ (exo_ok e3)
  have eu : upd H1 e (exo e C none) = H1 := by
    funext b
    by_cases hb : b = e
    · rw [hb, upd_same, he]
    · rw [upd_ne hb]
  rw [eu] at J3
  exact ⟨True.intro, J3.pins_of fun p hp => absurd hp (by simp)⟩
end
theorem meth_line {o a1 : Expr} {name : Str} {env : Env} {apos pos : Pos} (h : (apos.endLine == pos.line) = true) (hp : (starEach [a1] env) = [(false, eval a1 env)] := by rfl) :
    eval (.Call (.Attribute o name apos) [a1] [] pos) env = (do
      let ov ← attributeBase o name env (eval o env)
      standAt apos.atName
      let (f, first) ← holding [ov] (getMethod ov name (do return (← importBound o env).getD true))
      callWith pos f first (backTo pos (starEach [a1] env)) []) := by
  have hmp : methodCallPos true o env apos pos = pure pos := by
    unfold methodCallPos
    rw [h]
    rfl
  show (do
      let ov ← attributeBase o name env (eval o env)
      standAt apos.atName
      methodCall o name apos pos env ov 1 (backTo pos (starEach [a1] env)) []) = _
  unfold methodCall
  rw [hp]
  show (do
      let ov ← attributeBase o name env (eval o env)
      standAt apos.atName
      let (f, first) ← holding [ov] (calleeOf true o env ov name)
      let callPos ← methodCallPos true o env apos pos
      callWith callPos f first (backTo pos [(false, eval a1 env)]) []) = _
  rw [hmp]
  rfl
theorem ncx_end {P : Program} {w : World} {K : PySem.W.Frag} {mg : Str → Option Value} {base : Heap} {N : List Str} {F : NF} {f : Addr} {A : Around} {outer : List Env} {s s' : Shared} {H : Hp} {Q : VK} {E : XK} {fl : Flow}
    (hs : SP (ncx CX0 P w K mg base N F f A outer s H E) [] { nx := fun _ H' => Q .non H', rt := Q } fl s') : CR CX0 outer P w H s Q E (.ok (.ret (match fl with | .ret v => v | _ => .none))) s' := by
  have fin : ∀ {σ' : L2.St} {H' : Hp} {v : V} {u : Value}, Inv (ncx CX0 P w K mg base N F f A outer s H E) [] σ' H' s' → L2.RelV v u → Q v H' → CE outer P w H s Q u s' :=
    fun {σ' H' v u} J rv q => ⟨v, H', J.os, J.bare, J.base, J.hok, rv, q⟩
  cases fl with
  | ret u =>
    obtain ⟨v, σ', H', J, rv, q⟩ := hs
    exact fin J rv q
  | next =>
    obtain ⟨σ', H', J, q⟩ := hs
    exact fin (v := V.non) (u := Value.none) J rfl q
  | brk =>
    obtain ⟨_, _, _, q⟩ := hs
    exact False.elim q
  | cont =>
    obtain ⟨_, _, _, q⟩ := hs
    exact False.elim q
section
variable {P : Program} {w : World} {K : PySem.W.Frag} {mg : Str → Option Value} {base : Heap}
theorem ei_fn {k : Nat} {C f cc cda : Addr} {qual x fld t0 file : Str} {tf : Tok} {params : Arguments} {body : List Stmt} {scope : Scope} {kV doc pm ct oc ccl cl : Value} {an od cdd cld : Option Addr} {osl ccs csl : Array (Option Value)} {vs : Array Value} {ar : Arg} {p0 p1 p2 p3 p4 p5 p6 p7 p8 q1 q2 q3 q4 : Pos} {j : Nat}
    (lk : K.lookup f = some ⟨oc, od, .func (PySem.W.fnX "__init__" qual params body scope [("__class__", cc)] .none kV doc pm an (.ref cda) ct), osl⟩) (hcd : PySem.W.codeIn K (.ref cda) qual = true)
    (S : NScope ["self", x, "__class__"] ["self", x] ["__class__"] scope)
    (hcode : K.lookup cda = some ⟨ccl, cdd, .fields vs, ccs⟩) (hvs : vs[2]? = some (.str file tf)) (hfile : ((P.main.file : Str) == file) = true) (htop : (P.main.scope.names.lookup ("super" : Str)).isSome = false)
    (hcell : K.lookup cc = some ⟨cl, cld, .cell (some (.ref C)), csl⟩) (T : OexC K C) (hsub : PySem.W.mroIn K C (.ref C) = some true) (hB : PySem.W.subIn K (.ref C) (.type "ValueError") = some true)
    (hsuper : mg "super" = none) (hst : PySem.W.nsIn K cStatics "thirdparty.any" = some none) (hm : PySem.W.ks_superIn K C C "__init__" = some (some (.builtin "ValueError.__init__")))
    (hpar : (params.posonlyargs ++ params.args).head? = some ar) (har : ar.arg = "self") (hks : scope.names.lookup ("super" : Str) = some .globalImplicit) (hno : PySem.W.findIn K (.ref C) fld = some none)
    (hline : (p2.endLine == p7.line) = true) (hxd : (x == ("__debug__" : Str)) = false) (hxc : (x == ("__classdict__" : Str)) = false)
    (hb : body = [.Expr (.Call (.Attribute (.Call (.Name "super" p0) [] [] p1) "__init__" p2) [.JoinedStr [.Constant (.str t0) j p3, .FormattedValue (.Name x p4) (-1) none p5] p6] [] p7) p8, .Assign [.Attribute (.Name "self" q1) fld q2] (.Name x q3) q4]) :
    FnOk P w K mg base CX0 (k + 1) f (PySem.W.fnX "__init__" qual params body scope [("__class__", cc)] .none kV doc pm an (.ref cda) ct) ["self", x] (spEI C fld t0) := by
  refine ⟨fun vs H Q E ⟨e, r, ev, _⟩ => by rw [ev]; rfl, fun A outer s H args us vs1 Q E hr e0 hbd r hsp => ?_⟩
  obtain ⟨e, rv, ev, he, hfm, hq⟩ := hsp
  subst ev
  subst hb
  obtain ⟨nm, q, Nn, bs, bm, sn, sub, ab, col, dd, k0, k1, k2, k3, k5, hC, hbm⟩ := id T.cls
  have hcl : PySem.W.clsIn K C = some { name := nm, bases := bs, mro := .ref C :: bm, ns := Nn, qualname := q, hasDict := true, slotNames := sn, subclasses := sub, abstract := ab, collection := col, hasDel := false } := by unfold PySem.W.clsIn; rw [hC] <;> rfl
  have lim : s.heap.NoLimit := e0.mod.nolimit.keeps fun b o e => (e0.bs b o e).1
  have KX0 : K.In s.heap := e0.mod.kin.keeps fun b o e => (e0.bs b o e).1
  have bcc := e0.bs _ _ (e0.mod.kin _ _ hcell)
  have CA : CellsAt [(("__class__" : Str), cc)] ["__class__"] [some (.ref C)] s.heap H := by
    have only : ∀ (y : Str) (c : Addr), List.lookup y [(("__class__" : Str), cc)] = some c → c = cc ∧ y = "__class__" := fun y c h => by
      rw [List.lookup_cons] at h
      cases hy : (y == ("__class__" : Str)) with
      | true => rw [hy] at h; cases h; exact ⟨rfl, by simpa using hy⟩
      | false => rw [hy] at h; cases h
    refine ⟨rfl, fun y c h => ?_, fun a b c h1 h2 => ?_, fun i y h => ?_⟩
    · obtain ⟨rfl, _⟩ := only y c h
      exact ⟨bcc.2, _, _, bcc.1, rfl⟩
    · rw [(only a c h1).2, (only b c h2).2]
    · cases i with
      | succ i => simp at h
      | zero =>
        have h : some ("__class__" : Str) = some y := h
        cases h
        exact ⟨cc, rfl, fun v hv => by
          have hv : some (some (V.ref C)) = some (some v) := hv
          cases hv
          exact ⟨.ref C, rfl, _, bcc.1, rfl⟩⟩
  refine ks_codeAny_call_defAt (fd := PySem.W.fnX "__init__" qual params _ scope [("__class__", cc)] .none kV doc pm an (.ref cda) ct) (binds := List.zip [("self" : Str), x] us) hr.depth (KX0 _ _ lk) rfl lim (PySem.W.codeRec_of KX0 hcd) rfl hbd S.nocell (fun ⟨n, _⟩ hy => S.par n (List.of_mem_zip hy).1) (fun h₁ hns kp => ?_) S.co S.gen S.kind
  obtain ⟨Fn, hFn⟩ : ∃ Fn : NF, Fn = ⟨"__init__", qual, params, [.Expr (.Call (.Attribute (.Call (.Name "super" p0) [] [] p1) "__init__" p2) [.JoinedStr [.Constant (.str t0) j p3, .FormattedValue (.Name x p4) (-1) none p5] p6] [] p7) p8, .Assign [.Attribute (.Name "self" q1) fld q2] (.Name x q3) q4], scope, [("__class__", cc)], cda⟩ := ⟨_, rfl⟩
  have I : Inv (ncx CX0 P w K mg base ["self", x, "__class__"] ⟨"__init__", qual, params, [.Expr (.Call (.Attribute (.Call (.Name "super" p0) [] [] p1) "__init__" p2) [.JoinedStr [.Constant (.str t0) j p3, .FormattedValue (.Name x p4) (-1) none p5] p6] [] p7) p8, .Assign [.Attribute (.Name "self" q1) fld q2] (.Name x q3) q4], scope, [("__class__", cc)], cda⟩ f A outer s H E) [] (startF ["self", x, "__class__"] [.ref e, rv] [some (.ref C)]) H { s with heap := h₁, toks := s.toks + (List.zip [("self" : Str), x] us).length } := inv_startN S hr.hd e0 rfl r CA hns kp
  rw [← hFn] at I
  have hsc : Fn.scope = scope := by rw [hFn]
  have hcl2 : Fn.cl = [(("__class__" : Str), cc)] := by rw [hFn]
  have hfc : Fn.c = cda := by rw [hFn]
  -- the two statements
  have go : _root_.PySem.wpAt (model P w) (A.deeper (envF Fn f s.heap.objs.size)) (.func Fn.body (envF Fn f s.heap.objs.size)) (execs Fn.body (envF Fn f s.heap.objs.size)) (SP (ncx CX0 P w K mg base ["self", x, "__class__"] Fn f A outer s H E) [] { nx := fun _ H' => Q .non H', rt := Q }) (ncx CX0 P w K mg base ["self", x, "__class__"] Fn f A outer s H E).xe { s with heap := h₁, toks := s.toks + (List.zip [("self" : Str), x] us).length } := by
    have kSelf : (ncx CX0 P w K mg base ["self", x, "__class__"] Fn f A outer s H E).env.kindOf ("self" : Str) = some .local := by
      show Fn.scope.names.lookup _ = _
      rw [hsc]
      exact S.par _ (by simp)
    have kX : (ncx CX0 P w K mg base ["self", x, "__class__"] Fn f A outer s H E).env.kindOf x = some .local := by
      show Fn.scope.names.lookup _ = _
      rw [hsc]
      exact S.par _ (by simp)
    have kSup : (ncx CX0 P w K mg base ["self", x, "__class__"] Fn f A outer s H E).env.kindOf ("super" : Str) = some .globalImplicit := by
      show Fn.scope.names.lookup _ = _
      rw [hsc]
      exact hks
    have kCls : (ncx CX0 P w K mg base ["self", x, "__class__"] Fn f A outer s H E).env.kindOf ("__class__" : Str) = some .free := by
      show Fn.scope.names.lookup _ = _
      rw [hsc]
      exact S.frk _ (by simp)
    have hpar2 : ((PySem.W.fnX "__init__" qual params Fn.body scope [("__class__", cc)] .none kV doc pm an (.ref cda) ct).params.posonlyargs ++ (PySem.W.fnX "__init__" qual params Fn.body scope [("__class__", cc)] .none kV doc pm an (.ref cda) ct).params.args).head? = some ar := hpar
    have lk2 : K.lookup f = some ⟨oc, od, .func (PySem.W.fnX "__init__" qual params Fn.body scope [("__class__", cc)] .none kV doc pm an (.ref cda) ct), osl⟩ := by rw [lk, hFn]
    have peX : PE (ncx CX0 P w K mg base ["self", x, "__class__"] Fn f A outer s H E) (.Name x p4) (tVar 1) := pe_var rfl (.inl kX) hxd hxc
    have peX' : PE (ncx CX0 P w K mg base ["self", x, "__class__"] Fn f A outer s H E) (.Name x q3) (tVar 1) := pe_var rfl (.inl kX) hxd hxc
    have peS : PE (ncx CX0 P w K mg base ["self", x, "__class__"] Fn f A outer s H E) (.Name "self" q1) (tVar 0) := pe_var rfl (.inl kSelf)
    have peJ := pe_joined (pos := p6) (.cons (pe_str (X := ncx CX0 P w K mg base ["self", x, "__class__"] Fn f A outer s H E) (x := t0) (j := j) (pos := p3)) (.cons (pe_fmt (pos := p5) peX) .nil))
    have st1 := ei_super (body := Fn.body) (p0 := p0) (p1 := p1) (p2 := p2) (p7 := p7) (p8 := p8) I he T rfl rfl kSelf kSup kCls rfl (by show Value.ref Fn.c = _; rw [hfc]) (by show List.lookup _ Fn.cl = _; rw [hcl2]; rfl) lk2 hpar2 har hcode hvs hfile htop hcell hsub hB hsuper hst hm rfl peJ (by
      rcases hfm with ⟨y, rfl, c1, c2, c3⟩ | ⟨i, rfl, c1, c2, c3⟩
      · exact ⟨t0, rfl, c2, .str y, rfl, .inl ⟨y, rfl, c1, y, rfl, c3, rfl, rfl⟩⟩
      · exact ⟨t0, rfl, c2, .int i, rfl, .inr ⟨i, rfl, c1, (toString i : String), rfl, c3, rfl, rfl⟩⟩) (meth_line hline)
    have st2 := ps_ost (f := fld) (p' := q2) (pos := q4) peS peX'
    rw [show Fn.body = [.Expr (.Call (.Attribute (.Call (.Name "super" p0) [] [] p1) "__init__" p2) [.JoinedStr [.Constant (.str t0) j p3, .FormattedValue (.Name x p4) (-1) none p5] p6] [] p7) p8, .Assign [.Attribute (.Name "self" q1) fld q2] (.Name x q3) q4] by rw [hFn]] at st1 ⊢
    refine PySem.ks_wpAt_execs_cons (PySem.ks_wpAt_mono st1 (fun fl s' hs => ?_) fun _ _ z => z)
    obtain ⟨rfl, I2⟩ := hs
    refine wpAt_of_wpAny ((pss_one st2).run [] s' _ H _ I2 ⟨rv, rfl, .ref e, rfl, e, C, rfl, T, hno, .inl ⟨he, fun dx n ne => hq dx n ne⟩⟩)
  rw [hFn] at go
  exact PySem.ks_wpAt_mono go (fun fl s' hs => by have z := ncx_end hs; cases fl <;> exact z) fun e s' hs => hs
end
/-! ### made, raised -/
def oexB (K : PySem.W.Frag) (C : Addr) : Bool := match K.lookup C with
  | some ⟨.type "type", _, .cls cd, sl⟩ => (match cd.mro, sl.toList with
    | .ref C' :: bm, [_, _, _, _, some (.builtin n), _] => C' == C && n == "ValueError.__new__" && !cd.hasDel && cd.hasDict && PySem.HandSPX.refsVE bm
    | _, _ => false)
  | _ => false
theorem oexC_of {K : PySem.W.Frag} {C : Addr} (h : oexB K C = true) (sa : PySem.W.findIn K (.ref C) "__setattr__" = some (some (.builtin "object.__setattr__"))) (exC : PySem.W.subIn K (.ref C) (.type "BaseException") = some true)
    (tyC : PySem.W.typeIn K (.ref C) = some (.type "type")) (kC : PySem.W.keepIn K (.ref C) = true) : OexC K C := by
  refine ⟨?_, sa, exC, tyC, kC⟩
  unfold oexB at h
  split at h
  · rename_i dd cd sl ho
    split at h
    · rename_i C' bm k0 k1 k2 k3 n k5 hm hs
      simp only [Bool.and_eq_true, beq_iff_eq, Bool.not_eq_true'] at h
      obtain ⟨⟨⟨⟨rfl, rfl⟩, hdel⟩, hdict⟩, ht⟩ := h
      obtain ⟨nm, bs, mro, ns, qn, hd, sn, sub, ab, col, del⟩ := cd
      dsimp only at hm hdel hdict
      subst hm hdel hdict
      have hsl : sl = #[k0, k1, k2, k3, some (.builtin "ValueError.__new__"), k5] := by
        obtain ⟨l⟩ := sl
        simp only at hs
        rw [hs]
      subst hsl
      exact ⟨nm, qn, ns, bs, bm, sn, sub, ab, col, dd, k0, k1, k2, k3, k5, ho, ht⟩
    · cases h
  · cases h
structure XkI (P : Program) (w : World) (K : PySem.W.Frag) (mg : Str → Option Value) (base : Heap) (x : Str) (c : Addr) (fld t0 : Str) : Prop where
  g : mg x = some (.ref c)
  T : OexC K c
  ini : ∃ (fI : Addr) (fd : FuncData) (ps : List Str), PySem.W.findIn K (.ref c) "__init__" = some (some (.ref fI)) ∧ PySem.W.typeIn K (.ref fI) = some (.type "function") ∧ FnOk P w K mg base CX0 1 fI fd ps (spEI c fld t0) ∧ Binds K fd ps []
theorem pmk_ini {X : Cx} {x : Str} {c : Addr} {fld t0 : Str} {e : Expr} {te : TE} {p pos : Pos} (I : XkI X.prog X.w X.K X.mg X.base x c fld t0) (hr : Room 2 X.A) (hg : Gl X x) (he : PE X e te)
    (hdb : (x == ("__debug__" : Str)) = false := by decide) (hs : starEach [e] X.env = (false, eval e X.env) :: starEach [] X.env := by rfl) (hpl : (backTo pos (starEach [] X.env)).any (·.1) = false := by rfl) :
    PMk X (.Call (.Name x p) [e] [] pos) (tMkO c (spEI c fld t0) [] (tCons te tNil)) := by
  obtain ⟨fI, fd, ps, i1, i2, F1, hb⟩ := I.ini
  exact pmk_oex I.T i1 i2 F1 hr hb .nil pass0 hg I.g (pa_cons he pa_nil hs) hdb hs hpl
theorem xe1_mk {co : Option Addr} {c : Addr} {fld t0 : Str} {v : V} {A : List Addr} {H0 H : Hp} {E E' : XK} {σ : L2.St} (h : xe1 co fld v A H0 E) (e : co = some c) (g : Gr A H0 H) (fm : FmtV t0 v) (he : ∀ cls d H', E cls d H' → E' cls d H') :
    tMkO c (spEI c fld t0) [] (tCons (tC v) tNil) σ H E' := by
  refine ⟨by show 1 ≤ 1000; decide, fun a ha => ⟨a, v, rfl, upd_same, fm, fun dx hdx hne => ⟨rfl, dx, [(fld, v)], upd_same, ?_, ?_, ?_⟩⟩⟩
  · rw [upd_ne hne, upd_same]
  · rwa [upd_ne hne] at hdx
  · have hdx' : H dx = none := by rwa [upd_ne hne] at hdx
    have eH : upd (del (upd (upd (upd H a (exo a c none)) dx (exd dx [(fld, v)])) a (exo a c (some dx))) a) dx (.xd [(fld, v)]) = upd H dx (.xd [(fld, v)]) := by
      funext b
      by_cases hb : b = dx
      · rw [hb, upd_same, upd_same]
      · rw [upd_ne hb, upd_ne hb]
        by_cases hba : b = a
        · rw [hba, del_same]
          exact ha.symm
        · rw [del_ne hba, upd_ne hba, upd_ne hb, upd_ne hba]
    rw [eH]
    exact he _ _ _ (xe1_at h e (g.of0' (Gr.new hdx')) upd_same)
theorem fmtV_str {t0 y : Str} (h1 : strOk y) (h2 : strOk (Str.empty ++ t0)) (h3 : strOk (Str.empty ++ t0 ++ y)) : FmtV t0 (.str y) := .inl ⟨y, rfl, h1, h2, h3⟩
theorem fmtV_int {t0 : Str} {i : Int} (h1 : fmtOk i) (h2 : strOk (Str.empty ++ t0)) (h3 : strOk (Str.empty ++ t0 ++ (toString i : String))) : FmtV t0 (.int i) := .inr ⟨i, rfl, h1, h2, h3⟩
/-! ### a caught error's field -/
def rXD (f : Str) : Rp V := fun H r u => ∃ d, u = .ref d ∧ H d = some (.xd [(f, r)])
instance {f : Str} : Imm (rXD f) := ⟨fun g ⟨d, e, h⟩ => ⟨d, e, g _ _ h rfl⟩⟩
theorem rd_xf {a C d : Addr} {f : Str} {v : V} {i : Nat} {σ : L2.St} {H : Hp} {Q : VK} (hs : σ[i]? = some (some (.ref a))) (h : rXD f H v (.ref d)) (q : Q v H) : tXf a (.ref C) (some d) C f (tVar i) σ H Q := by
  obtain ⟨d', e, h⟩ := h
  cases e
  exact ⟨.ref a, hs, rfl, rfl, d, _, v, rfl, h, by simp [List.lookup], q⟩
end Mir
set_option Elab.async false
set_option linter.all false
set_option maxRecDepth 100000
namespace Mir
open PySem PySem.Spec PyProof.Rows L2 NdefX
variable [Nm]
/-! ### math.isqrt -/
def pisqrt (i : Int) : Int := ((Float64.isqrt i.toNat : Nat) : Int)
def sqOk (i : Int) : Prop := 0 ≤ i ∧ i < 18446744073709551616
instance (i : Int) : Decidable (sqOk i) := inferInstanceAs (Decidable (_ ∧ _))
def rIsq : List V → Hp → VK → Prop := fun vs H Q => ∃ a : Int, vs = [.int a] ∧ sqOk a ∧ Q (.int (pisqrt a)) H
theorem cr_isqrt {X : Cx} : CallR X (.builtin "math.isqrt") rIsq := by
  intro pins s σ H vs us Q I r h
  obtain ⟨a, rfl, c, q⟩ := h
  cases r with
  | cons ra rr =>
    cases rr
    obtain ⟨t, rfl⟩ := ra
    exact PySem.W.mg_isqrt c.1 (by have := c.2; omega) ⟨.int _, H, I.tok _, ⟨_, rfl⟩, q⟩
theorem rd_isqrt {H : Hp} {Q : VK} {i : Int} (c : sqOk i) (h : Q (.int (pisqrt i)) H) : ap3 rIsq [.int i] H Q := ⟨i, rfl, c, h⟩
/-! ### x = {k: v for ..} whose keys are tuples -/
section
variable {X : Cx}
theorem dc_core {K : PySem.W.Frag} (eK : X.K = K) {kx vx tg iter : Expr} {scope : Scope} {own : List (Str × Nat)} {pos pos' : Pos} {wi : TI} {g : TG} {tk tv : TE} {pins : List (Addr × Obj)} {s : Shared} {σ : L2.St} {H : Hp} {Q : VK} {use : Option (Value → Sem Unit)} {Qf : Value → Shared → Prop}
    (hu : X.A.units + 1 < cLine) (hc : X.calm = true) (hN : X.N.Nodup) (I : Inv X pins σ H s) (hi : PI X tg iter wi) (ok : BlkOk X.N X.env.scope scope own)
    (hg : ∀ (s : Shared) (H : Hp) (C : Addr) (cl : List (Str × Addr)) (fp : List Addr), PG (X.blk s H scope (compEnvC scope cl C X.env) fp) tg g)
    (hk : ∀ (s : Shared) (H : Hp) (C : Addr) (cl : List (Str × Addr)) (fp : List Addr), PE (X.blk s H scope (compEnvC scope cl C X.env) fp) kx tk)
    (hv : ∀ (s : Shared) (H : Hp) (C : Addr) (cl : List (Str × Addr)) (fp : List Addr), PE (X.blk s H scope (compEnvC scope cl C X.env) fp) vx tv) (hs : ∀ x, foldedSetIterable iter X.env x = pure x)
    (h : tDcA K wi g tk tv (own.map (·.2)) σ H Q)
    (hRR : ∀ D C s' m H', Inv X pins σ H' s' → Q (.ref D) H' → s'.heap.Ns C m → FpOk X pins H' C → compPost (model X.prog X.w) X.A X.xe use Qf (.ref D) C (.ok .next) s') :
    wpAny (model X.prog X.w) X.A (comprehension (.DictComp kx vx [⟨tg, iter, [], 0⟩] scope pos) scope X.env pos' newDict false (eval iter X.env) use) Qf X.xe s := by
  subst eK
  have captured : ∀ y ∈ scope.names, y.2 = .free → ∃ c, X.env.cells.lookup y.1 = some c := fun y hy e =>
    I.ok.has _ (ok.free y hy e)
  refine wpAny_comprehension_free (use := use) rfl hs (closure_ok captured) ok.kind (fun y hy e => by rw [ok.uniq y hy, e])
    (thn (hi.run pins s σ H _ I h) fun _ s1 h1 => thn h1 fun _ s2 ⟨it, fp, tn, J, H2, ev, I2, T, t0, f2, turns⟩ => ?_)
  subst ev
  refine wpAny_newObj_type (newEnv_comp ?_)
  -- the dict, and the heap with it
  have hDn : H2 s2.heap.objs.size = none := I2.hok.fresh (Nat.le_refl _)
  obtain ⟨W, ⟨m0, w0⟩, turn⟩ := turns _ hDn
  have I3 := I2.laid (t' := s2.toks) (h' := s2.heap.push { cls := .type "dict", data := .dict #[] }) (o := DA s2.heap.objs.size []) (fun b o e => Heap.get?_push_of_some _ e) (Nat.le_refl _) (da_ok (da_new _ I2.big))
  have small : ∀ b ∈ fp, b < s2.heap.objs.size := fun b hb => let ⟨o, e, _⟩ := T.obj _ _ t0 b hb; Heap.lt_size e
  have f3 : ∀ b ∈ fp, FpOk X pins (upd H2 s2.heap.objs.size (DA s2.heap.objs.size [])) b ∧ b < (s2.heap.push { cls := .type "dict", data := .dict #[] }).objs.size := fun b hb =>
    ⟨⟨by rw [upd_ne (Nat.ne_of_lt (small b hb))]; exact (f2 b hb).1, (f2 b hb).2⟩, by rw [Heap.size_push]; exact Nat.lt_succ_of_lt (small b hb)⟩
  have t3 : tn 0 (s2.heap.push { cls := .type "dict", data := .dict #[] }) := T.keep _ _ _ t0 fun b _ o e => Heap.get?_push_of_some _ e
  obtain ⟨D, hD⟩ : ∃ D, D = s2.heap.objs.size := ⟨_, rfl⟩
  obtain ⟨s3, hs3⟩ : ∃ z : Shared, z = { s2 with heap := s2.heap.push { cls := .type "dict", data := .dict #[] } } := ⟨_, rfl⟩
  have e3 : s3.heap = s2.heap.push { cls := .type "dict", data := .dict #[] } := by rw [hs3]
  rw [← hD] at I3 w0 turn f3
  rw [← e3] at t3 f3
  rw [← hs3] at I3
  obtain ⟨H3, hH3⟩ : ∃ z : Hp, z = upd H2 D (DA D []) := ⟨_, rfl⟩
  rw [← hH3] at I3 w0 f3
  have I4 := block_start I3 ok hN f3
  have none3 : ∀ b ∈ fp, H3 b = none := fun b hb => (f3 b hb).1.1
  have t4 : tn 0 (pushCells (s3.heap.push { cls := .type "dict", data := .dict #[] }) scope.names) := T.keep _ _ _ t3 fun b _ o e => pushCells_keeps _ _ _ _ (Heap.get?_push_of_some _ e)
  have pg := hg s3 H3 s3.heap.objs.size (cellsFrom (s3.heap.objs.size + 1) scope.names (cloFrom X.env.cells scope.names [])) fp
  have pk := hk s3 H3 s3.heap.objs.size (cellsFrom (s3.heap.objs.size + 1) scope.names (cloFrom X.env.cells scope.names [])) fp
  have pv := hv s3 H3 s3.heap.objs.size (cellsFrom (s3.heap.objs.size + 1) scope.names (cloFrom X.env.cells scope.names [])) fp
  rw [← hD, ← hs3]
  obtain ⟨ce, hce⟩ : ∃ z : Env, z = compEnvC scope (cellsFrom (s3.heap.objs.size + 1) scope.names (cloFrom X.env.cells scope.names [])) s3.heap.objs.size X.env := ⟨_, rfl⟩
  show codeAny _ _ (.compStart (.DictComp kx vx [⟨tg, iter, [], 0⟩] scope pos) 0 (.ref it) (.ref D) (compEnvC scope (cellsFrom (s3.heap.objs.size + 1) scope.names (cloFrom X.env.cells scope.names [])) s3.heap.objs.size X.env)) (compPost (model X.prog X.w) X.A X.xe use Qf (.ref D) s3.heap.objs.size) { s3 with heap := pushCells (s3.heap.push { cls := .type "dict", data := .dict #[] }) scope.names }
  rw [← hce] at I4 pg pk pv ⊢
  have cL : ce.locals = s3.heap.objs.size := by rw [hce]; rfl
  obtain ⟨s4, hs4⟩ : ∃ z : Shared, z = { s3 with heap := pushCells (s3.heap.push { cls := .type "dict", data := .dict #[] }) scope.names } := ⟨_, rfl⟩
  rw [← hs4] at I4 ⊢
  have t4 : tn 0 s4.heap := by rw [hs4]; exact t4
  obtain ⟨B, hB⟩ : ∃ z : Cx, z = X.blk s3 H3 scope ce fp := ⟨_, rfl⟩
  have stand : ∀ {σ' : L2.St} {H' : Hp} {s' : Shared}, Inv (X.blk s3 H3 scope ce fp) [] σ' H' s' → (∀ b ∈ fp, H' b = none) → ∀ b ∈ fp, FpOk (X.blk s3 H3 scope ce fp) [] H' b := fun I' n b hb =>
    ⟨n b hb, (I'.ok.exf b hb).1, I'.ok.exfs b hb, .inl hb, fun x c e => (I'.ok.exf b hb).2 x c e, fun p hp => absurd (show p ∈ ([] : List (Addr × Obj)) ++ [] from hp) (by simp)⟩
  refine (fun loop => codeAny_compStart_dict loop (T.self X.A 0 _ _ _ t4 loop)) ?_
  refine compLoop_anyD (fun n s' => ∃ i H', W i n H' ∧ tn i s'.heap ∧ (∀ b ∈ fp, H' b = none) ∧ Inv (X.blk s3 H3 scope ce fp) [] (wipe σ (own.map (·.2))) H' s') ?_ m0 ⟨0, H3, w0, t4, none3, I4⟩
  rintro n s5 ⟨i, H5, w5, t5, n5, I5⟩
  rcases turn i n H5 w5 with ⟨stop, q5⟩ | ⟨go, Nx, hNx, step⟩
  · -- no more items: back in the def
    refine thnF (T.done (X.blk s3 H3 scope ce fp) rfl rfl rfl hc i [] s5 _ H5 (fun _ _ => False) I5 (stand I5 n5) t5 stop) fun r s6 ⟨er, I6⟩ => ?_
    subst er
    have I7 : Inv X pins σ H5 s6 := I3.call' (ch := fp) I6.os I6.base I6.hok I6.bare fun b hb => let f := (f3 b hb).1.2; ⟨f.2.2.1, f.1, f.2.2.2.1, f.2.2.2.2⟩
    have free : H5 s3.heap.objs.size = none := by rw [← cL]; exact I6.free
    obtain ⟨m, hn, _⟩ := I6.loc
    have hn : s6.heap.Ns s3.heap.objs.size m := by rw [← cL]; exact hn
    exact hRR D s3.heap.objs.size s6 m H5 I7 q5 hn (I3.fpOk (Nat.le_refl _) free)
  · refine thnF (T.item (X.blk s3 H3 scope ce fp) rfl rfl rfl hc i [] s5 _ H5 (fun _ _ => False) I5 (stand I5 n5) t5 go) fun r s6 ⟨u, er, h6⟩ => ?_
    subst er
    refine thnF h6 fun _ s7 ⟨x, H7, I7, r7, y7, t7, n7⟩ => ?_
    refine thnF (pg.run _ s7 _ H7 x u _ (I7.pinned (stand I7 n7) (T.obj _ _ t7)) r7 (step x H7 y7)) fun _ s8 ⟨σ8, H8, I8, hw, q8⟩ => ?_
    refine wpAny_pure ?_
    rw [if_pos rfl]
    refine thnF (pk.run _ s8 σ8 H8 _ I8 q8) fun yv s9 ⟨y, H9, I9, r9, q9⟩ => ?_
    refine thnF (pv.run _ s9 σ8 H9 _ I9 q9) fun zv s10 ⟨z, H10, I10, r10, b, d, k, ey, kb, hd, ks, hl, nx⟩ => ?_
    subst ey
    obtain rfl : yv = Value.ref b := r9
    refine da_set (X := X.blk s3 H3 scope ce fp) hu I10 hd ks kb hl r10 fun s11 I11 => ?_
    obtain ⟨m', hm, w'⟩ := hNx _ nx
    have pin : ∀ c ∈ fp, ∀ o, s7.heap.get? c = some o → s11.heap.get? c = some o ∧ upd H10 D (DA D (putA d k b z)) c = none := fun c hb o e =>
      let z := I11.pin (c, o) (List.mem_append_right _ (List.mem_append_right _ (mem_pinsAt hb e)))
      ⟨z.1, z.2.1⟩
    refine ⟨m', hm, i + 1, _, w', T.keep _ _ _ t7 fun c hb o e => (pin c hb o e).1, fun c hb => ?_, (I11.unpinned (pins := [])).weak (by rw [← hw, wipe_length]) fun j v e => ?_⟩
    · obtain ⟨o, e, _⟩ := T.obj _ _ t7 c hb
      exact (pin c hb o e).2
    · rw [← hw] at e
      exact (wipe_some e).1
theorem ps_setDcA {K : PySem.W.Frag} (eK : X.K = K) {i : Nat} {y : Str} {py : Pos} {kx vx tg iter : Expr} {scope : Scope} {own : List (Str × Nat)} {pos spos : Pos} {wi : TI} {g : TG} {tk tv : TE} (hu : X.A.units + 1 < cLine) (hc : X.calm = true) (hN : X.N.Nodup) (hy : X.N[i]? = some y) (hyl : X.env.scope.names.lookup y = some .local)
    (hsw : swapsWith (.DictComp kx vx [⟨tg, iter, [], 0⟩] scope pos) (some (.Name y py)) spos.line X.env = pure true) (hi : PI X tg iter wi) (ok : BlkOk X.N X.env.scope scope own)
    (hg : ∀ (s : Shared) (H : Hp) (C : Addr) (cl : List (Str × Addr)) (fp : List Addr), PG (X.blk s H scope (compEnvC scope cl C X.env) fp) tg g)
    (hk : ∀ (s : Shared) (H : Hp) (C : Addr) (cl : List (Str × Addr)) (fp : List Addr), PE (X.blk s H scope (compEnvC scope cl C X.env) fp) kx tk)
    (hv : ∀ (s : Shared) (H : Hp) (C : Addr) (cl : List (Str × Addr)) (fp : List Addr), PE (X.blk s H scope (compEnvC scope cl C X.env) fp) vx tv) (hs : ∀ x, foldedSetIterable iter X.env x = pure x := by intro _; rfl) :
    PS X (.Assign [.Name y py] (.DictComp kx vx [⟨tg, iter, [], 0⟩] scope pos) spos) (tAsg (tFrz (tDcA K wi g tk tv (own.map (·.2)))) (gName i)) := by
  refine ⟨fun pins s σ H D I h => ?_⟩
  rw [exec_Assign_Name_used _ _ _ _ hsw]
  refine wpAny_bind (wpAny_standAt (wpAny_bind ?_))
  show wpAny _ X.A (do let _ ← comprehension (.DictComp kx vx [⟨tg, iter, [], 0⟩] scope pos) scope X.env (firstIterPos [⟨tg, iter, [], 0⟩] pos) newDict false (eval iter X.env) (some (assign (.Name y py) X.env))) _ _ s
  have h : tDcA K wi g tk tv (own.map (·.2)) σ H (frzA fun x H1 => gName i x σ H1 D.nx) := h
  refine wpAny_bind (thn (dc_core (Qf := fun _ s' => SP X pins D .next s') eK hu hc hN I hi ok hg hk hv hs h fun L C s' m H0 I0 q0 hn f => ?_) fun _ s' hq => wpAny_pure (wpAny_pure hq))
  obtain ⟨b0, u0, e0, h0, mu0, q0⟩ := q0
  cases e0
  obtain ⟨od, I'⟩ := I0.lock h0 mu0
  have q := q0 od
  have hCL : C ≠ L := fun e => by
    have z := f.1
    rw [e, h0] at z
    cases z
  have f : FpOk X pins (upd H0 L (.frz od u0)) C := ⟨by rw [upd_ne hCL]; exact f.1, f.2⟩
  obtain ⟨H', hH'⟩ : ∃ H', H' = upd H0 L (.frz od u0) := ⟨_, rfl⟩
  rw [← hH'] at I' q f
  show wpAny _ _ (assign (.Name y py) X.env (.ref L)) _ _ _
  refine wpAny_assign_Name (store_ok2 (v := V.ref L) I' hN hy (.inl hyl) rfl (fun s2 I2 ⟨a, sb, ha⟩ => ?_) (.inr hyl))
  obtain ⟨f0, f1, f2, f3, f4, f5⟩ := f
  have haC : C ≠ a := by
    rcases ha with z | z
    · rw [z]; exact f1
    · exact fun e => f4 y a z e.symm
  refine ⟨m, hn.sameBut sb haC, fun h3 sb3 => ?_⟩
  exact ⟨_, H', I2.turned (t' := s2.toks) (fun b o hb e => (sb3.2 b hb).trans e) f0 f1 f3 f4 f5, q⟩
end
theorem sw_trueD {kx vx : Expr} {gs : List Comprehension} {scope : Scope} {pos py : Pos} {y : Str} {l : Nat} {env : Env} (hk : env.scope.kind = .function) (hy : env.scope.names.lookup y = some .local) (hl : (py.line == pos.line) = true)
    (ha : (scope.names.any fun (n, k) => n == y && (k == .local || k == .cell)) = false) : swapsWith (.DictComp kx vx gs scope pos) (some (.Name y py)) l env = pure true := by
  have ky : env.kindOf y = some .local := hy
  have hb : env.blockKind = .function := by unfold Env.blockKind; rw [hk]; rfl
  unfold swapsWith
  simp only [hb, ky, ha, Expr.pos, hl]
  rfl
/-! ### a tuple of numbers in such a dict -/
theorem da_in {X : Cx} {A : Around} {pins : List (Addr × Obj)} {σ : L2.St} {H : Hp} {s : Shared} {E : Value → Shared → Prop} {a b : Addr} {d : List Ent} {k : List L2.Key} {Q : Value → Shared → Prop} (hu : A.units + 1 < cLine) (I : Inv X pins σ H s) (e : Rd H a (DA a d)) (q : KeysT X.K H d) (kb : KeyT X.K H b k)
    (h : ∀ s', Inv X pins σ H s' → Q (.bool (atA d k).isSome) s') : wpAny (model X.prog X.w) A (compareOp .In (.ref b) (.ref a)) Q E s := by
  obtain ⟨y, _, xs, r, dd⟩ := da_dict I e q
  refine wpAny_in_heap (tupleKind_room_in1 hu) (keyT_of I kb) y dd ?_
  rw [← atA_some r k]
  exact h _ (I.tok _)
def dinA (K : PySem.W.Frag) : R2 := fun x y H Q => ∃ a b d k, y = .ref a ∧ x = .ref b ∧ Rd H a (DA a d) ∧ KeysT K H d ∧ KeyT K H b k ∧ Q (.bl (atA d k).isSome) H
theorem op_inA {X : Cx} {K : PySem.W.Frag} (eK : X.K = K) (hu : X.A.units + 1 < cLine) : OpR X (compareOp .In) (dinA K) := by
  subst eK
  intro pins s σ H x y v u Q I rx ry hq
  obtain ⟨a, b, d, k, rfl, rfl, h1, h2, h3, q⟩ := hq
  cases rx
  cases ry
  exact da_in hu I h1 h2 h3 fun s' I' => ⟨.bl _, H, I', rfl, q⟩
theorem in_D {β : Type} {r : Rp β} {K : PySem.W.Frag} {H : Hp} {d : List (List Int × β)} {k : List Int} {v y : V} {Q : VK} (h : rDA K r H d v) (hk : rT K rI H k y) (q : Q (.bl (atM d k).isSome) H) : dinA K y v H Q := by
  obtain ⟨a, o, e, ev, h1, h2, h3⟩ := h
  obtain ⟨b, ey, kb⟩ := kT hk
  have z := atM_rel h3 k
  have w : (atA e (k.map Sum.inl)).isSome = (atM d k).isSome := by
    cases e1 : atM d k <;> cases e2 : atA e (k.map Sum.inl) <;> rw [e1, e2] at z
    · rfl
    · exact z.elim
    · exact z.elim
    · rfl
  exact ⟨a, b, e, _, ev, ey, .inr ⟨o, h1⟩, h2, kb, by rw [w]; exact q⟩
end Mir
set_option Elab.async false
set_option linter.all false
set_option maxRecDepth 100000
namespace Mir
open PySem PySem.Spec PyProof.Rows L2 NdefX
variable [Nm]
/-! ### the subscript of a dict display of numbers -/
theorem upd_upd2 (H : Hp) (p : Addr) (x y : HO) : upd (upd H p x) p y = upd H p y := by
  funext a
  by_cases e : a = p
  · subst e; rw [upd_same, upd_same]
  · rw [upd_ne e, upd_ne e, upd_ne e]
def ciV (l : List (Int × Int)) : List (Key × V) := l.map fun p => (.inl p.1, .int p.2)
def ciT (l : List (Int × Int)) : List (TE × TE) := l.map fun p => (tC (.int p.1), tC (.int p.2))
theorem pairs_ci (σ : L2.St) (H : Hp) : ∀ (l : List (Int × Int)) (Q : List (V × V) → Hp → Prop), Q ((ciV l).map fun kv => (kV kv.1, kv.2)) H → tPairs (ciT l) σ H Q
  | [], Q, h => h
  | p :: l, Q, h => pairs_ci σ H l (fun ps H3 => Q ((.int p.1, .int p.2) :: ps) H3) h
theorem atM_cons {κ β : Type} [DecidableEq κ] (p : κ × β) (l : List (κ × β)) (k : κ) : atM (p :: l) k = if p.1 = k then some p.2 else atM l k := by
  unfold atM
  by_cases e : p.1 = k
  · simp [List.find?_cons, e]
  · simp [List.find?_cons, e]
theorem valV_merge (i : Int) : ∀ (l : List (Int × Int)) (acc : List (Key × V)), (l.map (·.1)).Nodup →
    valV (mergeK acc (ciV l)) (.inl i) = match atM l i with | some n => some (.int n) | none => valV acc (.inl i)
  | [], acc, _ => rfl
  | p :: l, acc, h => by
    have h1 := List.nodup_cons.mp h
    have e : mergeK acc (ciV (p :: l)) = mergeK (putK acc (.inl p.1) (.int p.2)) (ciV l) := rfl
    rw [e, valV_merge i l _ h1.2, atM_cons, valV_put]
    by_cases q : p.1 = i
    · subst q
      have : atM l p.1 = none := by
        unfold atM
        have : l.find? (fun x => decide (x.1 = p.1)) = none := List.find?_eq_none.mpr fun x hx => by
          simp only [decide_eq_true_eq]
          intro z
          have hm := List.mem_map_of_mem (f := fun x : Int × Int => x.1) hx
          rw [z] at hm
          exact h1.1 hm
        rw [this]; rfl
      rw [this]; simp
    · have q2 : ¬ (Sum.inl i : Key) = .inl p.1 := fun z => q (by injection z with z; exact z.symm)
      simp [q, q2]
def dgC (l : List (Int × Int)) (H2 : Hp) (Q : VK) : VK := fun y H3 => H3 = H2 ∧ ∃ i n, y = .int i ∧ atM l i = some n ∧ Q (.int n) H2
theorem dget_C {E : Er → Prop} {P : Int → Prop} {l : List (Int × Int)} {H : Hp} {Q : VK} {i : Int} (hm : wp (getM l i) P E) (q : ∀ n, P n → Q (.int n) H) : dgC l H Q (.int i) H := by
  unfold getM at hm
  cases e : atM l i with
  | none => rw [e] at hm; exact hm.elim
  | some n => rw [e] at hm; exact ⟨rfl, i, n, rfl, e, q n hm⟩
theorem rd_disp {l : List (Int × Int)} {ty : TE} {σ : L2.St} {H : Hp} {Q : VK} (hd : (l.map (·.1)).Nodup) (h15 : l.length ≤ 15) (h : ∀ H2, Gr [] H H2 → ty σ H2 (dgC l H2 Q)) (hw : ∀ (H : Hp) (A B : VK), (∀ v H1, A v H1 → B v H1) → ty σ H A → ty σ H B) :
    tDGet (tDisp (ciT l)) ty σ H Q := by
  intro p hp
  refine pairs_ci σ _ l _ ⟨upd_same, ciV l, rfl, by simpa [ciV] using h15, ?_⟩
  rw [upd_upd2]
  refine hw _ _ _ (fun v H1 ⟨e1, i, n, e2, e3, q⟩ => ?_) (h _ (Gr.new hp))
  subst e1 e2
  refine ⟨p, .int n, rfl, ?_, q⟩
  have := DGet.k (k := .inl i) (upd_same (H := H) (a := p) (o := .dK (mergeK [] (ciV l))))
  rw [valV_merge i l [] hd, e3] at this
  exact this
theorem mono_var {i : Nat} {σ : L2.St} (H : Hp) (A B : VK) (z : ∀ v H1, A v H1 → B v H1) : tVar i σ H A → tVar i σ H B := fun ⟨v, e, h⟩ => ⟨v, e, z _ _ h⟩
/-! ### reversed -/
section
variable {α : Type} {K : PySem.W.Frag} {r : Rp α} {H0 H : Hp} {a : Addr} {xs : List α} {vs : List V} {X : Cx} {tg e : Expr} {te : TE} {σ : L2.St} {R : It → Hp → Prop}
theorem walk_revT {xs : List V} : Walk (RT.ItvT K a xs.length) xs.length (fun H => SqT K H a xs) (fun i H x H' => H' = H ∧ xs[xs.length - 1 - i]? = some x) :=
  ⟨fun i _ hi q => ⟨hi, xs, xs[xs.length - 1 - i]'(by omega), q, by simp [show xs.length - 1 - i < xs.length by omega]⟩, fun _ _ => Nat.le_refl _, fun _ _ _ _ _ q y => ⟨y.1, y.2 xs q⟩⟩
theorem wk_revT [Imm r] (hp : Paired (r H0) xs vs) : Wk (RT.ItvT K a vs.length) xs.reverse (fun H => SqT K H a vs) r H0 := ⟨fun i H x H' => H' = H ∧ vs[vs.length - 1 - i]? = some x, by rw [List.length_reverse, Paired.length hp]; exact walk_revT, fun A i H v H' g hi ⟨e, ev⟩ => by
  obtain ⟨x, hx, hr⟩ := Paired.get1 hp ev
  rw [List.length_reverse] at hi
  refine ⟨x, ?_, by rw [e]; exact Gr.refl _, by rw [e]; exact Imm.mono g hr⟩
  rw [List.getElem?_reverse hi, Paired.length hp]
  exact hx⟩
theorem wk_revL [Imm r] (hp : Paired (r H0) xs vs) : Wk (Itv K a vs.length) xs.reverse (fun H => SqL K H a vs) r H0 := ⟨fun i H x H' => H' = H ∧ vs[vs.length - 1 - i]? = some x, by rw [List.length_reverse, Paired.length hp]; exact walk_rev, fun A i H v H' g hi ⟨e, ev⟩ => by
  obtain ⟨x, hx, hr⟩ := Paired.get1 hp ev
  rw [List.length_reverse] at hi
  refine ⟨x, ?_, by rw [e]; exact Gr.refl _, by rw [e]; exact Imm.mono g hr⟩
  rw [List.getElem?_reverse hi, Paired.length hp]
  exact hx⟩
def revAR (K : PySem.W.Frag) (R : It → Hp → Prop) (v : V) (H1 : Hp) : Prop := ∃ (a : Addr) (xs : List V), v = .ref a ∧ ((SqL K H1 a xs ∧ R (Itv K a xs.length) H1) ∨ (SqT K H1 a xs ∧ R (RT.ItvT K a xs.length) H1))
theorem rd_irevA (h : te σ H (revAR K R)) : RT.iRevA K te σ H R := h
theorem rev_t {u : V} (e : u = .ref a) (h1 : SqT K H a vs) (h : R (RT.ItvT K a vs.length) H) : revAR K R u H := ⟨a, vs, e, .inr ⟨h1, h⟩⟩
theorem rev_l {u : V} (e : u = .ref a) (h1 : SqL K H a vs) (h : R (Itv K a vs.length) H) : revAR K R u H := ⟨a, vs, e, .inl ⟨h1, h⟩⟩
theorem pi_revAK {p pos : Pos} (hg : Gl X "reversed") (hm : X.mg "reversed" = none) (he : PE X e te) (eK : X.K = K) (hs : starEach [e] X.env = (false, eval e X.env) :: starEach [] X.env := by rfl) : PI X tg (.Call (.Name "reversed" p) [e] [] pos) (RT.iRevA K te) := eK ▸ RT.pi_revA hg hm he hs
end
/-! ### sorted, tuples of numbers -/
def sortT (xs : List (List Int)) : List (List Int) := xs.mergeSort fun a b => decide (a ≤ b)
def sortOkT (xs : List (List Int)) : Prop := xs.length < 64 ∧ ∀ x ∈ xs, x.length = (xs.headD []).length ∧ 1 ≤ x.length ∧ ∀ n ∈ x, 0 ≤ n
instance (xs : List (List Int)) : Decidable (sortOkT xs) := by unfold sortOkT; exact inferInstance
theorem sortT_perm (xs : List (List Int)) : (sortT xs).Perm xs := List.mergeSort_perm xs _
theorem sortT_le (xs : List (List Int)) : (sortT xs).Pairwise (· ≤ ·) := by
  have h := List.pairwise_mergeSort (le := fun a b : List Int => decide (a ≤ b)) (fun a b c h1 h2 => by simp only [decide_eq_true_eq] at *; exact List.le_trans h1 h2) (fun a b => by simp only [Bool.or_eq_true, decide_eq_true_eq]; exact List.le_total a b) xs
  exact h.imp fun h => by simpa only [decide_eq_true_eq] using h
theorem sortT_eq {l m : List (List Int)} (p : l.Perm m) (a : l.Pairwise (· ≤ ·)) (b : m.Pairwise (· ≤ ·)) : l = m := p.eq_of_pairwise (fun x y _ _ h1 h2 => List.le_antisymm h1 h2) a b
theorem sortT_of_perm {l m : List (List Int)} (p : l.Perm m) : sortT l = sortT m := sortT_eq ((sortT_perm l).trans (p.trans (sortT_perm m).symm)) (sortT_le l) (sortT_le m)
theorem code_lex {B : Int} : ∀ {n m : List Int}, n.length = m.length → TS.Bd B n → TS.Bd B m → (TS.code B n < TS.code B m ↔ n < m)
  | [], [], _, _, _ => by simp [TS.code]
  | d :: r, e :: q, hl, h1, h2 => by
    have hl' : r.length = q.length := by simpa using hl
    rw [List.cons_lt_cons_iff]
    rcases Int.lt_trichotomy d e with h | h | h
    · exact ⟨fun _ => .inl h, fun _ => TS.code_lt hl' h1.tail h2.tail h⟩
    · subst h
      rw [TS.code_same hl', code_lex hl' h1.tail h2.tail]
      exact ⟨fun z => .inr ⟨rfl, z⟩, fun z => z.elim (fun z => absurd z (Int.lt_irrefl _)) (·.2)⟩
    · have := TS.code_lt hl'.symm h2.tail h1.tail h
      exact ⟨fun z => by omega, fun z => z.elim (fun z => by omega) (fun z => by omega)⟩
theorem Paired.perm {α β : Type} {q : α → β → Prop} {vs ys : List β} (p : ys.Perm vs) : ∀ {xs : List α}, Paired q xs vs → ∃ zs : List α, zs.Perm xs ∧ Paired q zs ys := by
  induction p with
  | nil => intro xs h; exact ⟨xs, .refl _, h⟩
  | cons x _ ih =>
    intro xs h
    cases h with
    | cons h t =>
      obtain ⟨zs, p, z⟩ := ih t
      exact ⟨_ :: zs, p.cons _, .cons h z⟩
  | swap x y l =>
    intro xs h
    cases h with
    | cons h t =>
      cases t with
      | cons h2 t => exact ⟨_ :: _ :: _, .swap _ _ _, .cons h2 (.cons h t)⟩
  | trans _ _ ih1 ih2 =>
    intro xs h
    obtain ⟨z1, p1, q1⟩ := ih2 h
    obtain ⟨z2, p2, q2⟩ := ih1 q1
    exact ⟨z2, p2.trans p1, q2⟩
theorem Paired.pw {α : Type} {q : α → V → Prop} {P : V → V → Prop} {R : α → α → Prop} {G : α → Prop} (z : ∀ x y v w, G x → G y → q x v → q y w → P v w → R x y) : ∀ {xs : List α} {vs : List V}, Paired q xs vs → (∀ x ∈ xs, G x) → vs.Pairwise P → xs.Pairwise R
  | _, _, .nil, _, _ => .nil
  | _, _, .cons (l₁ := xs) (l₂ := vs) h t, g, p => by
    have ⟨p1, p2⟩ := List.pairwise_cons.mp p
    refine List.pairwise_cons.mpr ⟨fun y hy => ?_, Paired.pw z t (fun x m => g x (List.mem_cons_of_mem _ m)) p2⟩
    obtain ⟨i, hi⟩ := List.getElem?_of_mem hy
    obtain ⟨v, hv, hq⟩ := Paired.at t hi
    exact z _ _ _ _ (g _ List.mem_cons_self) (g _ (List.mem_cons_of_mem _ hy)) h hq (p1 v (List.mem_of_getElem? hv))
theorem ex_bd : ∀ xs : List (List Int), ∃ B : Int, ∀ x ∈ xs, ∀ n ∈ x, n < B
  | [] => ⟨0, fun x h => absurd h (by simp)⟩
  | x :: xs => by
    obtain ⟨B, h⟩ := ex_bd xs
    have one : ∀ x : List Int, ∃ C : Int, ∀ n ∈ x, n < C := by
      intro x
      induction x with
      | nil => exact ⟨0, fun n h => absurd h (by simp)⟩
      | cons a x ih =>
        obtain ⟨C, hC⟩ := ih
        refine ⟨max (a + 1) C, fun n hn => ?_⟩
        rcases List.mem_cons.mp hn with e | hn
        · omega
        · have := hC n hn; omega
    obtain ⟨C, hC⟩ := one x
    refine ⟨max B C, fun y hy n hn => ?_⟩
    rcases List.mem_cons.mp hy with e | hy
    · have := hC n (e ▸ hn); omega
    · have := h y hy n hn; omega
def rSortX (K : PySem.W.Frag) : List V → Hp → VK → Prop := fun vs H Q => ∃ d B, 1 ≤ d ∧ rSortU K d B vs H Q
theorem sortedTK {X : Cx} {K : PySem.W.Frag} (e : X.K = K) : CallR X (.builtin "sorted") (rSortX K) := by
  subst e
  intro pins s σ H vs us Q I r ⟨d, B, hd, h⟩
  exact cr_sortT hd pins s σ H vs us Q I r h
theorem tupI_of {K : PySem.W.Frag} {H : Hp} {x : List Int} {v : V} (h : rT K rI H x v) : TupI K H v x := by
  obtain ⟨a, e, vs, h1, h2⟩ := h
  exact ⟨a, e, by rw [← ints_of h2]; exact h1⟩
theorem sorted_T {K : PySem.W.Frag} {H : Hp} {a : Addr} {xs : List (List Int)} {Q : VK} (h : Lq K (rT K rI) H a xs) (c : sortOkT xs) (q : ∀ p H', H p = none → Gr [] H H' → Ls (rT K rI) H' p (sortT xs) → Q (.ref p) H') : ap3 (rSortX K) [.ref a] H Q := by
  obtain ⟨vs, h1, h2⟩ := h
  obtain ⟨c1, c2⟩ := c
  obtain ⟨B, hB⟩ := ex_bd xs
  obtain ⟨d, hd, hx⟩ : ∃ d : Nat, 1 ≤ d ∧ ∀ x ∈ xs, x.length = d := by
    cases xs with
    | nil => exact ⟨1, Nat.le_refl _, fun x h => absurd h (by simp)⟩
    | cons y ys => exact ⟨y.length, (c2 y List.mem_cons_self).2.1, fun x h => (c2 x h).1⟩
  have bd : ∀ x ∈ xs, TS.Bd B x := fun x h n hn => ⟨(c2 x h).2.2 n hn, hB x h n hn⟩
  refine ⟨d, B, hd, a, vs, rfl, h1, by rw [← Paired.length h2]; exact c1, fun v hv => ?_, fun ys p pm sr n => ?_⟩
  · obtain ⟨i, hi⟩ := List.getElem?_of_mem hv
    obtain ⟨x, e, hr⟩ := Paired.get1 h2 hi
    have m := List.mem_of_getElem? e
    exact ⟨x, tupI_of hr, hx x m, bd x m⟩
  · obtain ⟨zs, p1, p2⟩ := Paired.perm pm h2
    have e : zs = sortT xs := by
      refine sortT_eq (p1.trans (sortT_perm xs).symm) (Paired.pw (G := fun x => x ∈ xs) (fun x y v w gx gy hv hw z => ?_) p2 (fun x m => p1.mem_iff.mp m) sr) (sortT_le xs)
      have z := z _ _ (tupI_of hv) (tupI_of hw)
      have := code_lex (by rw [hx x gx, hx y gy]) (bd y gy) (bd x gx)
      exact List.not_lt.mp fun l => absurd (this.mpr l) (by omega)
    subst e
    exact q _ _ n (Gr.new n) ⟨_, upd_same, Paired.imm (Gr.new (A := []) n) p2⟩
/-! ### max of a tuple -/
def maxF (l : List Int) (a : Int) : Int := l.foldl (fun x y => if x < y then y else x) a
def maxI : List Int → Int
  | [] => 0
  | a :: l => maxF l a
theorem maxF_spec : ∀ (l : List Int) (a : Int), (maxF l a = a ∨ maxF l a ∈ l) ∧ a ≤ maxF l a ∧ ∀ y ∈ l, y ≤ maxF l a
  | [], a => ⟨.inl rfl, Int.le_refl _, fun y h => absurd h (by simp)⟩
  | b :: l, a => by
    obtain ⟨h1, h2, h3⟩ := maxF_spec l (if a < b then b else a)
    have e : maxF (b :: l) a = maxF l (if a < b then b else a) := rfl
    rw [e]
    refine ⟨?_, ?_, fun y hy => ?_⟩
    · rcases h1 with h1 | h1
      · rw [h1]
        split
        · exact .inr List.mem_cons_self
        · exact .inl rfl
      · exact .inr (List.mem_cons_of_mem _ h1)
    · refine Int.le_trans ?_ h2
      split <;> omega
    · rcases List.mem_cons.mp hy with q | q
      · refine Int.le_trans ?_ h2
        rw [q]
        split <;> omega
      · exact h3 y q
theorem maxI_spec {l : List Int} (h : 0 < l.length) : maxI l ∈ l ∧ ∀ y ∈ l, y ≤ maxI l := by
  cases l with
  | nil => cases h
  | cons a l =>
    obtain ⟨h1, h2, h3⟩ := maxF_spec l a
    refine ⟨?_, fun y hy => ?_⟩
    · rcases h1 with h1 | h1
      · show maxF l a ∈ _
        rw [h1]; exact List.mem_cons_self
      · exact List.mem_cons_of_mem _ h1
    · rcases List.mem_cons.mp hy with q | q
      · rw [q]; exact h2
      · exact h3 y q
section
variable {prog : Program} {w : World} {A : Around} {E : Value → Shared → Prop} {s : Shared} {l : Addr} {xs : Array (Int × Tok)}
theorem max_intTuple {Q : Value → Shared → Prop} (hh : A.handled = none) (hl : s.heap.IsTuple l (intItems xs)) (hne : 0 < xs.size)
    (h : ∀ v h' tk, (intItems xs)[argBest (fun i j => decide (numAt xs i > numAt xs j)) (xs.size - 1)]? = some v → (∀ b o, s.heap.get? b = some o → h'.get? b = some o) → Q v { s with heap := h', toks := tk }) :
    wpAny (model prog w) A (call (.builtin "max") [.ref l]) Q E s := by
  have hlt : l < s.heap.objs.size := by obtain ⟨_, e, _⟩ := hl; exact Heap.lt_size e
  refine call_max_walk (wpAny_pyIter_tuple hl ?_)
  refine ⟨_, _, _, _, _, _, _, rfl, Walks.tuple (A := A.in1) hh _ l (Nat.ne_of_lt hlt) (intItems xs), ⟨⟨_, Heap.get?_push_size _ rfl, rfl, rfl⟩, hl.push _⟩, fun b hb => ?_, by simpa [intItems] using hne, CmpOf.ints_gt (numAt xs) (fun _ _ => intItems_at), fun v h' tk hP hk => ?_⟩
  · show b < (s.heap.push _).objs.size
    rw [Heap.size_push]
    rcases List.mem_cons.mp hb with rfl | hb
    · exact Nat.lt_succ_self _
    · rcases List.mem_cons.mp hb with rfl | hb
      · exact Nat.lt_succ_of_lt hlt
      · cases hb
  · refine h v h' tk (by simpa [intItems] using hP) fun b o e => hk b o (fun hm => ?_) (Heap.get?_push_of_some _ e)
    rcases List.mem_cons.mp hm with e1 | hm
    · exact absurd (e1 ▸ Heap.lt_size e) (Nat.lt_irrefl _)
    · cases hm
end
theorem max_rawT {prog : Program} {w : World} {A : Around} {E : Value → Shared → Prop} {s : Shared} {l : Addr} {its : List Value} {ns : List Int} {Q : Value → Shared → Prop} (hh : A.handled = none) (hl : s.heap.IsTuple l its.toArray) (hi : IntsAre its ns) (hne : 0 < ns.length)
    (h : ∀ h' tk M t', (∀ b o, s.heap.get? b = some o → h'.get? b = some o) → M ∈ ns → (∀ a, a ∈ ns → a ≤ M) → Q (.int M t') { s with heap := h', toks := tk }) : wpAny (model prog w) A (call (.builtin "max") [.ref l]) Q E s := by
  obtain ⟨xs, e⟩ := hi.allInts.items
  have hn : numsOf (intItems xs).toList = ns := by rw [← e]; exact hi.numsOf
  rw [nums_intItems] at hn
  subst hn
  rw [e] at hl
  have hsz : 0 < xs.size := by simpa using hne
  refine max_intTuple hh hl hsz fun v h' tk hv hk => ?_
  obtain ⟨t, rfl⟩ := intItems_at hv
  obtain ⟨h1, h2⟩ := argBest_gt (numAt xs) (xs.size - 1)
  refine h h' tk _ t hk ?_ fun a ha => ?_
  · rw [numAt_eq]; exact PySem.getD_mem (by rw [List.length_map, Array.length_toList]; omega)
  · obtain ⟨j, hj, rfl⟩ := mem_getD ha
    rw [List.length_map, Array.length_toList] at hj
    rw [← numAt_eq]; exact h2 j (by omega)
def rMaxT (K : PySem.W.Frag) : List V → Hp → VK → Prop := fun vs H Q => ∃ (a : Addr) (ns : List Int), vs = [V.ref a] ∧ SqT K H a (ns.map V.int) ∧ 0 < ns.length ∧ ∀ m, m ∈ ns → (∀ y, y ∈ ns → y ≤ m) → Q (.int m) H
theorem maxTK {X : Cx} {K : PySem.W.Frag} (hc : X.calm = true) (e : X.K = K) : CallR X (.builtin "max") (rMaxT K) := by
  subst e
  intro pins s σ H vs us Q I r h
  obtain ⟨a, ns, rfl, hs, hne, q⟩ := h
  obtain ⟨its, rv, hl, _⟩ := I.tuple hs
  rw [Vals.ref1 r]
  exact max_rawT (I.ok.hd hc) hl rv.ints hne fun h' tk m t' hk h1 h2 => ⟨.int _, H, I.kept hk, ⟨_, rfl⟩, q m h1 h2⟩
theorem max_T {K : PySem.W.Frag} {H : Hp} {v : V} {xs : List Int} {Q : VK} (h : rT K rI H xs v) (c : 0 < xs.length) (q : Q (.int (maxI xs)) H) : ap3 (rMaxT K) [v] H Q := by
  obtain ⟨a, e, vs, h1, h2⟩ := h
  subst e
  rw [ints_of h2] at h1
  obtain ⟨z1, z2⟩ := maxI_spec c
  refine ⟨a, xs, rfl, h1, c, fun m h3 h4 => ?_⟩
  have : m = maxI xs := by
    have := z2 m h3
    have := h4 _ z1
    omega
  rw [this]; exact q
/-! ### a name that is no attribute of an object's own -/
theorem lookup_no {m : Str} : ∀ {l : List (Str × V)}, (l.map (·.1)).all (fun k => !(m == k)) = true → List.lookup m l = none
  | [], _ => rfl
  | (k, v) :: l, h => by
    have h : (!(m == k) && (l.map (·.1)).all (fun k => !(m == k))) = true := h
    rw [Bool.and_eq_true] at h
    have e : (m == k) = false := by simpa using h.1
    show (match m == k with | true => some v | false => List.lookup m l) = none
    rw [e]
    exact lookup_no h.2
end Mir
set_option Elab.async false
set_option linter.all false
set_option maxRecDepth 100000
namespace Mir
open PySem PySem.Spec PyProof.Rows L2 NdefX
variable [Nm]
/-! ### operators of own objects -/
theorem back_of {X : Cx} {pins : List (Addr × Obj)} {σ : L2.St} {Q : VK} : ∀ w s, EP X pins σ Q w s → PySem.W.CmpBack (EP X pins σ Q) w s := by
  intro w s h
  obtain ⟨v, H', I, r, q⟩ := id h
  cases w with
  | notImplemented =>
    cases v <;> first | (obtain ⟨_, z⟩ := r; exact Value.noConfusion z) | exact Value.noConfusion r
  | _ => exact h
section
variable {X : Cx} {a b : Expr} {pos : Pos} {ta tb : TE} {C f : Addr} {fd : FuncData} {ps : List Str} {sp : Sp} {CX : CXT} {k : Nat} {E : L2.St → XK}
/-- x op y, both objects of the class C -/
def tBopS (C : Addr) (sp : Sp) (E : L2.St → XK) (ta tb : TE) : TE := fun σ H Q => ta σ H fun x H1 => tb σ H1 fun y H2 => ∃ p q dx dy fs gs, x = .ref p ∧ y = .ref q ∧ H2 p = some (.ins C dx fs) ∧ H2 q = some (.ins C dy gs) ∧ sp [x, y] H2 Q (E σ)
theorem pe_bopS {op : Operator} (hc : PySem.W.selfFirst X.K C = true) (hm : Meth X.K C (PySem.dunder op.info.2) f) (F : FnOk X.prog X.w X.K X.mg X.base CX k f fd ps sp) (hr : Room k X.A) (hb : Binds X.K fd ps []) (hx : ∀ σ, PassesAt CX X σ (E σ)) (ha : PE X a ta) (hbb : PE X b tb) :
    PE X (.BinOp a op b pos) (tBopS C sp E ta tb) := by
  refine ⟨fun pins s σ H Q I h => ?_⟩
  refine wpAny_BinOp (binT ha hbb I h fun v u s2 x y H2 I2 rx ry q => ?_)
  obtain ⟨p, q', dx, dy, fs, gs, rfl, rfl, hp, hq, hs⟩ := q
  obtain rfl : v = Value.ref p := rx
  obtain rfl : u = Value.ref q' := ry
  obtain ⟨mA, J, _⟩ := ins_get I2.hok hp
  obtain ⟨mB, J', _⟩ := ins_get I2.hok hq
  obtain ⟨od, J, _⟩ := J.look
  obtain ⟨od', J', _⟩ := J'.look
  obtain ⟨m, hF⟩ := I2.fr
  refine PySem.W.binop_K hF I2.ok.mod.kin J J'.type hc hm.at_ hm.fn ?_
  exact wpAny_mono (run_fnS (us := [.ref p, .ref q']) (vs := [.ref p, .ref q']) F hr hb (hx σ) I2 (.cons rfl (.cons rfl .nil)) hs) back_of fun _ _ e => e
theorem rd_bop {σ : L2.St} {H : Hp} {Q : VK} (h : ta σ H fun x H1 => tb σ H1 fun y H2 => ∃ p q dx dy fs gs, x = .ref p ∧ y = .ref q ∧ H2 p = some (.ins C dx fs) ∧ H2 q = some (.ins C dy gs) ∧ sp [x, y] H2 Q (E σ)) : tBopS C sp E ta tb σ H Q := h
/-- -x -/
def tNegS (C : Addr) (sp : Sp) (E : L2.St → XK) (ta : TE) : TE := fun σ H Q => ta σ H fun x H2 => ∃ p dx fs, x = .ref p ∧ H2 p = some (.ins C dx fs) ∧ sp [x] H2 Q (E σ)
theorem pe_negS (hm : Meth X.K C "__neg__" f) (F : FnOk X.prog X.w X.K X.mg X.base CX k f fd ps sp) (hr : Room k X.A) (hb : Binds X.K fd ps []) (hx : ∀ σ, PassesAt CX X σ (E σ)) (ha : PE X a ta) :
    PE X (.UnaryOp .USub a pos) (tNegS C sp E ta) := by
  refine ⟨fun pins s σ H Q I h => ?_⟩
  refine UnaryOp_ (thn (ha.run pins s σ H _ I h) fun v s1 ⟨x, H1, I1, r1, q1⟩ => ?_)
  obtain ⟨p, dx, fs, rfl, hp, hs⟩ := q1
  obtain rfl : v = Value.ref p := r1
  obtain ⟨mA, J, _⟩ := ins_get I1.hok hp
  obtain ⟨od, J, _⟩ := J.look
  obtain ⟨m, hF⟩ := I1.fr
  refine PySem.W.ksp_neg hF I1.ok.mod.kin J hm.at_ hm.fn ?_
  exact run_fnS (us := [.ref p]) (vs := [.ref p]) F hr hb (hx σ) I1 (.cons rfl .nil) hs
theorem rd_neg {σ : L2.St} {H : Hp} {Q : VK} (h : ta σ H fun x H2 => ∃ p dx fs, x = .ref p ∧ H2 p = some (.ins C dx fs) ∧ sp [x] H2 Q (E σ)) : tNegS C sp E ta σ H Q := h
/-- x == y by an own __eq__ -/
def rEqO (C : Addr) (sp : Sp) (E : XK) : R2 := fun x y H Q => ∃ p q dx dy fs gs, x = .ref p ∧ y = .ref q ∧ H p = some (.ins C dx fs) ∧ H q = some (.ins C dy gs) ∧ sp [x, y] H Q E
theorem op_eqO {E : XK} (hm : Meth X.K C "__eq__" f) (F : FnOk X.prog X.w X.K X.mg X.base CX k f fd ps sp) (hr : Room k X.A) (hb : Binds X.K fd ps []) (hx : ∀ σ, PassesAt CX X σ E) : OpR X (compareOp .Eq) (rEqO C sp E) := by
  intro pins s σ H x y v u Q I rx ry h
  obtain ⟨p, q', dx, dy, fs, gs, rfl, rfl, hp, hq, hs⟩ := h
  obtain rfl : v = Value.ref p := rx
  obtain rfl : u = Value.ref q' := ry
  obtain ⟨mA, J, _⟩ := ins_get I.hok hp
  obtain ⟨mB, J', _⟩ := ins_get I.hok hq
  obtain ⟨od, J, _⟩ := J.look
  obtain ⟨od', J', _⟩ := J'.look
  obtain ⟨m, hF⟩ := I.fr
  show wpAny (model X.prog X.w) X.A (richCompare .Eq (.ref p) (.ref q')) (EP X pins σ Q) X.xe s
  refine PySem.W.cmp_K (op := .Eq) (tb := .ref C) hr.units0 hF I.ok.mod.kin J J'.type (by simp [PySem.W.notFirst]) hm.at_ hm.fn ?_
  exact wpAny_mono (run_fnS (E := fun _ => E) (us := [.ref p, .ref q']) (vs := [.ref p, .ref q']) F hr hb (hx σ) I (.cons rfl (.cons rfl .nil)) hs) back_of fun _ _ e => e
end
theorem slot_one : Slot "object" "__ne__" "object.__ne__" :=
  .of (T := "object") (name := "__ne__") (owner := "object") (n := "__ne__") (by rw [typeLookup_type, builtinLookup_eq_fast]; kernel_rfl) (by decide +kernel) (by decide +kernel) (by decide +kernel)
    (.inl (by decide +kernel)) (by rw [isSubtype_type]; kernel_rfl)
section
open PySem.W
variable {prog : Program} {w : World} {A A₀ : Around} {E : Value → Shared → Prop} {s : Shared} {K : PySem.W.Frag} {x C L f : Addr} {h₀ : Heap} {m : Str → Option Value} {ox : Obj} {od : Option Obj} {b : Value}
theorem ifBoundNe {M : Model} {Q : Option Value → Shared → Prop} (X : K.In s.heap) (I : PySem.W.InstAt s.heap x ox C od) (hs : findIn K (.ref C) "__ne__" = some (some (.builtin "object.__ne__")))
    (h : wpAny M A (call (.builtin "object.__ne__") [.ref x, b]) (fun v => Q (some v)) E s) : wpAny M A (callSpecialIfBound? (.ref x) "__ne__" [b]) Q E s := by
  simp only [callSpecialIfBound?, bindSpecialIfBound?]
  refine wpAny_holding (wpAny_bind (wpAny_bind (wpAny_bind (I.type.here ((looks_findIn X hs).here ?_)))))
  refine wpAny_bind (wpAny_askSetting (wpAny_ite ?_))
  have fin : wpAny M A (call (.builtin "object.__ne__") ([.ref x] ++ [b]) >>= fun v => pure (some v)) Q E s := wpAny_bind (wpAny_mono h (fun v s' h' => wpAny_pure h') fun _ _ h' => h')
  split
  · exact wpAny_bind ((Looks.of_pure (slot_one.bind _)).here (wpAny_pure (by exact fin)))
  · exact wpAny_tryCatch (wpAny_bind ((Looks.of_pure (slot_one.bind _)).here (wpAny_pure (by exact fin))))
theorem callNe {Q : Value → Shared → Prop} (hu : A.in1.units < cLine) (X : K.In s.heap) (I : PySem.W.InstAt s.heap x ox C od) (hp : plainOver K C = true) (hs : findIn K (.ref C) "__eq__" = some (some (.ref f))) (hf : isFn K (.ref f) = true)
    (h : wpAny (model prog w) A.in1 (call (.ref f) [.ref x, b]) (fun v s' => ∃ c, v = .bool c ∧ Q (.bool (!c)) s') E s) : wpAny (model prog w) A (call (.builtin "object.__ne__") [.ref x, b]) Q E s := by
  obtain ⟨cd, hc, ho⟩ := any_some hp
  have ne : cd.mro.isEmpty = false := by cases q : cd.mro with | nil => rw [q] at ho; cases ho | cons _ _ => rfl
  have sub : Looks (model prog w) s.heap (isInstance (.ref x) (.type "object")) true := I.type.andThen (looks_mroIn X (by unfold mroIn; rw [hc, Option.bind_some, if_neg (by rw [ne]; decide), only_has ho]))
  refine wpAny_call (codeAny_call_builtin slot_one.plain PySem.F.cmpEntry_ne (@check_slot (model prog w) _ _ s "object.__ne__" "object" "__ne__" (.ref x) [b] [] _ PySem.F.cmpKind_ne PySem.F.cmpSplit_ne sub (PySem.F.cmpArgs_ne (.ref x) b) ?_))
  unfold Builtin.«object.__ne__»
  repeat (first
    | with_reducible refine wpAny_cRoomFor hu ?_
    | (refine wpAny_bind (m := callSpecialIfBound? (.ref x) (Str.ofString "__eq__") [b])
        (ifBound_K X I hs hf (wpAny_mono h (fun r s' hr => by
          obtain ⟨c, rfl, hq⟩ := hr
          repeat (first | exact hq | exact wpAny_pure hq | exact wpAny_truthy_bool hq | (refine wpAny_bind (m := truthy (.bool _)) (wpAny_truthy_bool ?_)) | wp_step)) fun _ _ e => e)))
    | wp_step)
theorem neRich {tb : Value} {Q : Value → Shared → Prop} (hu : A.in1.units < cLine) (F : Fr h₀ L s.heap m) (X₀ : K.In h₀) (I : PySem.W.InstAt s.heap x ox C od) (hb : Looks (model prog w) s.heap (typeOf b) tb) (hn : notFirst K C tb = true)
    (hne : findIn K (.ref C) "__ne__" = some (some (.builtin "object.__ne__"))) (hp : plainOver K C = true) (hs : findIn K (.ref C) "__eq__" = some (some (.ref f))) (hf : isFn K (.ref f) = true)
    (h : wpAny (model prog w) A.in1 (call (.ref f) [.ref x, b]) (fun v s' => ∃ c, v = .bool c ∧ Q (.bool (!c)) s') E s) : wpAny (model prog w) A (richCompare .NotEq (.ref x) b) Q E s := by
  have X := X₀.keeps F.keep
  have one : wpAny (model prog w) A (tryCompare (.ref x) (cmpInfo .NotEq).2.1 b) (fun r s' => ∃ v, r = some v ∧ Q v s') E s := by
    unfold tryCompare
    refine wpAny_bind (ifBoundNe X I hne (callNe hu X I hp hs hf (wpAny_mono h (fun v s' hv => ?_) fun _ _ e => e)))
    obtain ⟨c, rfl, hq⟩ := hv
    exact ⟨c, rfl, wpAny_pure ⟨_, rfl, hq⟩⟩
  unfold richCompare
  simp only [oneThing_ref]
  refine wpAny_holding (wpAny_bind (wpAny_cRoomFor (Nat.lt_of_succ_lt hu) ?_))
  refine wpAny_bind (I.type.here (wpAny_bind (hb.here ?_)))
  split
  · rename_i q
    have e : subIn K tb (.ref C) = some false := by
      rcases Bool.or_eq_true_iff.mp hn with e | e
      · rw [beq_iff_eq.mp e] at q; simp at q
      · exact beq_iff_eq.mp e
    refine wpAny_bind ((looks_subIn X e).here ?_)
    simp only [Bool.false_eq_true, if_false]
    refine wpAny_bind (wpAny_mono one (fun r s' z => ?_) fun _ _ e => e)
    obtain ⟨v, rfl, hq⟩ := z
    exact wpAny_pure hq
  · refine wpAny_bind (wpAny_pure ?_)
    simp only [Bool.false_eq_true, if_false]
    refine wpAny_bind (wpAny_mono one (fun r s' z => ?_) fun _ _ e => e)
    obtain ⟨v, rfl, hq⟩ := z
    exact wpAny_pure hq
end
section
variable {X : Cx} {a b : Expr} {pos : Pos} {ta tb : TE} {C f : Addr} {fd : FuncData} {ps : List Str} {sp : Sp} {CX : CXT} {k : Nat}
theorem run_fnA {A : Around} {E : L2.St → XK} {pins : List (Addr × Obj)} {σ : L2.St} {H : Hp} {s : Shared} {Q : VK} {us : List Value} {vs : List V} (F : FnOk X.prog X.w X.K X.mg X.base CX k f fd ps sp) (room : Room k A) (fr : A.frames = X.A.frames) (hb : Binds X.K fd ps []) (hx : PassesAt CX X σ (E σ))
    (I : L2.Inv X pins σ H s) (r : L2.Vals vs us) (h : sp vs H Q (E σ)) : wpAny (model X.prog X.w) A (call (.ref f) us) (EP X pins σ Q) X.xe s := by
  have hl : us.length = ps.length := by rw [← r.length]; exact F.len _ _ _ _ h
  have b := hb s us I.kIn (by rw [List.append_nil]; exact hl)
  rw [List.append_nil] at b
  have e0 : Env0 X.prog X.w X.K X.mg X.base A X.stack s H := by
    have e := I.env0
    exact ⟨by rw [fr]; exact e.frames, e.mod, e.bs, e.bsz, e.funs, e.frf, e.hok, e.bare⟩
  refine wpAny_call (codeAny_mono (F.run A X.stack s H ⟨us, []⟩ us vs Q (E σ) room e0 b r h) fun r s' hq => ?_)
  cases r with
  | error e => exact hx pins H s e s' I hq
  | ok fl =>
    cases fl with
    | ret u => exact I.after hq
    | next => exact False.elim hq
    | brk => exact False.elim hq
    | cont => exact False.elim hq
/-- x != y by an own __eq__ -/
def rNeO (C : Addr) (sp : Sp) (E : XK) : R2 := fun x y H Q => ∃ p q dx dy fs gs, x = .ref p ∧ y = .ref q ∧ H p = some (.ins C dx fs) ∧ H q = some (.ins C dy gs) ∧ sp [x, y] H (fun v H' => ∃ c, v = .bl c ∧ Q (.bl (!c)) H') E
theorem op_neO {E : XK} (hm : Meth X.K C "__eq__" f) (hne : PySem.W.findIn X.K (.ref C) "__ne__" = some (some (.builtin "object.__ne__"))) (hp : PySem.W.plainOver X.K C = true) (F : FnOk X.prog X.w X.K X.mg X.base CX k f fd ps sp) (hr : Room (k + 1) X.A) (hb : Binds X.K fd ps []) (hx : ∀ σ, PassesAt CX X σ E) : OpR X (compareOp .NotEq) (rNeO C sp E) := by
  intro pins s σ H x y v u Q I rx ry h
  obtain ⟨p, q', dx, dy, fs, gs, rfl, rfl, hp1, hq, hs⟩ := h
  obtain rfl : v = Value.ref p := rx
  obtain rfl : u = Value.ref q' := ry
  obtain ⟨mA, J, _⟩ := ins_get I.hok hp1
  obtain ⟨mB, J', _⟩ := ins_get I.hok hq
  obtain ⟨od, J, _⟩ := J.look
  obtain ⟨od', J', _⟩ := J'.look
  obtain ⟨m, hF⟩ := I.fr
  show wpAny (model X.prog X.w) X.A (richCompare .NotEq (.ref p) (.ref q')) (EP X pins σ Q) X.xe s
  refine neRich (tb := .ref C) hr.in1.units0 hF I.ok.mod.kin J J'.type (by simp [PySem.W.notFirst]) hne hp hm.at_ hm.fn ?_
  refine wpAny_mono (run_fnA (E := fun _ => E) (us := [.ref p, .ref q']) (vs := [.ref p, .ref q']) F hr.in1 rfl hb (hx σ) I (.cons rfl (.cons rfl .nil)) hs) (fun w s' z => ?_) fun _ _ e => e
  obtain ⟨v, H', I', r, c, e, q⟩ := z
  subst e
  obtain rfl : w = Value.bool c := r
  exact ⟨c, rfl, .bl (!c), H', I', rfl, q⟩
/-- x(e, ..): an own __call__ of what a name holds -/
def tCallO (C : Addr) (sp : Sp) (E : L2.St → XK) (ta : TE) (t : TA) : TE := fun σ H Q => ta σ H fun x H1 => (∃ p, x = .ref p) ∧ t σ H1 fun vs H2 => ∃ p dx fs, x = .ref p ∧ H2 p = some (.ins C dx fs) ∧ sp (x :: vs) H2 Q (E σ)
theorem rd_callO {E : L2.St → XK} {t : TA} {σ : L2.St} {H : Hp} {Q : VK} (h : ta σ H fun x H1 => (∃ p, x = .ref p) ∧ t σ H1 fun vs H2 => ∃ p dx fs, x = .ref p ∧ H2 p = some (.ins C dx fs) ∧ sp (x :: vs) H2 Q (E σ)) : tCallO C sp E ta t σ H Q := h
theorem callWithO {M : Model} {A : Around} {E : Value → Shared → Prop} {s : Shared} {env : Env} {x : Addr} {e : Expr} {rest : List Expr} {Q : Value → Shared → Prop}
    (h : wpAny M A (spliced (backTo pos (starEach (e :: rest) env))) (fun vs s₁ => (∃ ox od, PySem.W.InstAt s₁.heap x ox C od ∧ ox.data = .plain) ∧ wpAny M A (call (.ref x) ([] ++ vs)) Q E s₁) E s)
    (he : starEach (e :: rest) env = (false, eval e env) :: starEach rest env := by rfl) (hplain : (backTo pos (starEach rest env)).any (·.1) = false := by rfl) :
    wpAny M A (callWith pos (.ref x) [] (backTo pos (starEach (e :: rest) env)) []) Q E s := by
  rw [he] at h ⊢
  have hpl : ((backTo pos ((false, eval e env) :: starEach rest env)).any (·.1) || ([] : List (Option Str × Sem Value)).any (·.1.isNone)) = false := by show ((false || (backTo pos (starEach rest env)).any (·.1)) || false) = false; rw [hplain]; rfl
  have h2 := PySem.Calls.evalArgs_plain (f := .ref x) (Q := fun a s₁ => (∃ ox od, PySem.W.InstAt s₁.heap x ox C od ∧ ox.data = .plain) ∧ wpAny M A (call (.ref x) ([] ++ a.pos) a.kw) Q E s₁) h
  unfold callWith
  refine wpAny_bind (wpAny_holding (wpAny_mono h2 (fun a s₁ h₁ => wpAny_bind (wpAny_standAt ?_)) fun _ _ y => y))
  obtain ⟨⟨ox, od, I, hd⟩, h₁⟩ := h₁
  have L := PySem.W.kco_keeper (M := M) I hd
  simp only [hpl]
  refine wpAny_bind (L.here ?_)
  have tail : ∀ {t : Sem Value}, wpAny M A t Q E s₁ → wpAny M A (t >>= fun r => holding [r] point >>= fun _ => pure r) Q E s₁ :=
    fun ht => wpAny_bind (wpAny_mono ht (fun r s₂ hr => wpAny_bind (wpAny_holding (wpAny_point (wpAny_pure hr)))) fun _ _ y => y)
  exact tail (wpAny_operateT h₁)
theorem pe_callO {E : L2.St → XK} {t : TA} {x : Str} {nm : Pos} {e : Expr} {es : List Expr} (hm : Meth X.K C "__call__" f) (hfn : PySem.W.fnIn X.K f = true) (F : FnOk X.prog X.w X.K X.mg X.base CX k f fd ps sp) (hr : Room k X.A) (hb : Binds X.K fd ps []) (hx : ∀ σ, PassesAt CX X σ (E σ)) (hf : PE X (.Name x nm) ta) (ha : PA X (e :: es) t)
    (he : starEach (e :: es) X.env = (false, eval e X.env) :: starEach es X.env := by rfl) (hpl : (backTo pos (starEach es X.env)).any (·.1) = false := by rfl) : PE X (.Call (.Name x nm) (e :: es) [] pos) (tCallO C sp E ta t) := by
  refine ⟨fun pins s σ H Q I h => ?_⟩
  refine wpAny_Call_Name_kw (thn (hf.run pins s σ H _ I h) fun u s1 ⟨v, H1, I1, r1, ⟨p, ev⟩, q1⟩ => ?_)
  subst ev
  obtain rfl : u = Value.ref p := r1
  refine callWithO (C := C) (thn (ha.run pos pins s1 σ H1 _ I1 q1) fun us s2 hh => ?_) he hpl
  obtain ⟨vs, H2, I2, r, p', dx, fs, e', hp, hs⟩ := hh
  cases e'
  obtain ⟨mA, J, _⟩ := ins_get I2.hok hp
  obtain ⟨od, J, _⟩ := J.look
  refine ⟨⟨_, _, J, rfl⟩, ?_⟩
  have r2 : L2.Vals (V.ref p :: vs) (Value.ref p :: us) := .cons rfl r
  have hl : (Value.ref p :: us).length = ps.length := by rw [← r2.length]; exact F.len _ _ _ _ hs
  have b := hb s2 (Value.ref p :: us) I2.kIn (by rw [List.append_nil]; exact hl)
  rw [List.append_nil] at b
  refine wpAny_call (PySem.W.kco_code I2.kIn J rfl hm.at_ hm.fn hfn (codeAny_mono (F.run X.A X.stack s2 H2 ⟨Value.ref p :: us, []⟩ (Value.ref p :: us) (V.ref p :: vs) Q (E σ) hr I2.env0 b r2 hs) fun r s' hq => ?_))
  cases r with
  | error e => exact hx σ pins H2 s2 e s' I2 hq
  | ok fl =>
    cases fl with
    | ret u => exact I2.after hq
    | next => exact False.elim hq
    | brk => exact False.elim hq
    | cont => exact False.elim hq
end
theorem bop_of {C : Addr} {H : Hp} {x y : V} {R : Prop} (h1 : ∃ a dx fs, x = .ref a ∧ H a = some (.ins C dx fs)) (h2 : ∃ a dx fs, y = .ref a ∧ H a = some (.ins C dx fs)) (q : R) :
    ∃ p q dx dy fs gs, x = .ref p ∧ y = .ref q ∧ H p = some (.ins C dx fs) ∧ H q = some (.ins C dy gs) ∧ R := by
  obtain ⟨a, dx, fs, e, h⟩ := h1
  obtain ⟨b, dy, gs, e2, h2⟩ := h2
  exact ⟨a, b, dx, dy, fs, gs, e, e2, h, h2, q⟩
theorem uop_of {C : Addr} {H : Hp} {x : V} {R : Prop} (h1 : ∃ a dx fs, x = .ref a ∧ H a = some (.ins C dx fs)) (q : R) : ∃ p dx fs, x = .ref p ∧ H p = some (.ins C dx fs) ∧ R := by
  obtain ⟨a, dx, fs, e, h⟩ := h1
  exact ⟨a, dx, fs, e, h, q⟩
theorem callO_of {C : Addr} {H : Hp} {x : V} {R : Prop} (h1 : ∃ a dx fs, x = .ref a ∧ H a = some (.ins C dx fs)) (q : R) : (∃ p, x = .ref p) ∧ R := by
  obtain ⟨a, dx, fs, e, h⟩ := h1
  exact ⟨⟨a, e⟩, q⟩
/-- what isinstance asks of an own class -/
def InsTy (K : PySem.W.Frag) (C : Addr) : Prop := ∀ (H : Hp) (a dx : Addr) (fs : List (Str × V)), H a = some (.ins C dx fs) → TyOf K H (.ref a) (.ref C)
theorem isi_O {K : PySem.W.Frag} {C D : Addr} {H : Hp} {x : V} {b : Bool} {Q : VK} (h : ∃ a dx fs, x = .ref a ∧ H a = some (.ins C dx fs)) (it : InsTy K C) (e : PySem.W.kitOne K (.ref C) (.ref D) = some b) (q : Q (.bl b) H) : ap3 (rIsi K) [x, .ref D] H Q := by
  obtain ⟨a, dx, fs, rfl, h⟩ := h
  exact ⟨.ref a, .ref D, .ref C, .ref D, b, rfl, .own D, .base (it H a dx fs h), e, q⟩
theorem isi_TO {K : PySem.W.Frag} {D : Addr} {H : Hp} {x : V} {b : Bool} {S : String} {Q : VK} (h : TyX K H x (.type S)) (e : PySem.W.kitOne K (.type S) (.ref D) = some b) (q : Q (.bl b) H) : ap3 (rIsi K) [x, .ref D] H Q :=
  ⟨x, .ref D, .type S, .ref D, b, rfl, .own D, h, e, q⟩
section
open PySem.W
theorem fnIn_of {K : PySem.W.Frag} {f : Addr} (h1 : isFn K (.ref f) = true) (h2 : keepIn K (.ref f) = true) : fnIn K f = true := by
  unfold keepIn at h2
  dsimp only at h2
  unfold fnIn
  have h1 : typeIn K (.ref f) = some (.type "function") := beq_iff_eq.mp h1
  cases e : K.lookup f with
  | none => rw [e] at h2; cases h2
  | some o =>
    obtain ⟨c, d, da, sl⟩ := o
    rw [e] at h2
    cases da with
    | func _ => rfl
    | cls cd =>
      have h2 : specialIn K (.ref f) "__call__" = some (some (.builtin "type.__call__")) := beq_iff_eq.mp h2
      unfold specialIn at h2
      rw [h1, Option.bind_some] at h2
      have h3 : fastLookup "function" ("__call__" : Str) = some (some (.builtin "type.__call__")) := h2
      have z : (fastLookup "function" ("__call__" : Str) == some (some (.builtin "type.__call__"))) = false := by kernel_rfl
      rw [h3] at z
      exact absurd z (by simp)
    | _ => cases h2
end
theorem kit_self {K : PySem.W.Frag} {t : Value} : PySem.W.kitOne K t t = some true := by
  unfold PySem.W.kitOne
  simp
theorem is_get {K : PySem.W.Frag} : PySem.W.specialIn K (.builtin "object.__class__") "__get__" = some (some (.builtin "getset_descriptor.__get__")) := by
  unfold PySem.W.specialIn
  have h : PySem.W.typeIn K (.builtin "object.__class__") = some (.type "getset_descriptor") := by
    show PySem.W.pureOf (fastBuiltinType "object.__class__") = _
    kernel_rfl
  rw [h, Option.bind_some]
  show PySem.fastLookup "getset_descriptor" ("__get__" : Str) = _
  kernel_rfl
theorem is_set {K : PySem.W.Frag} : PySem.W.takesIn K (.builtin "object.__class__") = some true := by
  have h : PySem.W.typeIn K (.builtin "object.__class__") = some (.type "getset_descriptor") := by
    show PySem.W.pureOf (fastBuiltinType "object.__class__") = _
    kernel_rfl
  have h2 : PySem.W.specialIn K (.builtin "object.__class__") "__set__" = some (some (.builtin "getset_descriptor.__set__")) := by
    unfold PySem.W.specialIn
    rw [h, Option.bind_some]
    show PySem.fastLookup "getset_descriptor" ("__set__" : Str) = _
    kernel_rfl
  unfold PySem.W.takesIn
  rw [h2]
end Mir
set_option Elab.async false
set_option linter.all false
namespace Mir
open PySem PySem.Spec PyProof.Rows L2
variable [Nm]
/-! ### the mirrors' own arithmetic -/
section
variable {α σ ρ : Type}
theorem foldR_ok {f : σ → α → R σ} (h : ∀ s x, ∃ s', f s x = .ok s') : ∀ (xs : List α) (s : σ), ∃ s', foldR f s xs = .ok s'
  | [], s => ⟨s, rfl⟩
  | x :: xs, s => by
    obtain ⟨s1, e⟩ := h s x
    obtain ⟨s2, e2⟩ := foldR_ok h xs s1
    exact ⟨s2, by show (f s x).bind _ = _; rw [e]; exact e2⟩
theorem foldR_inv {f : σ → α → R σ} (I : σ → Prop) (P : α → Prop) (h : ∀ s x, I s → P x → ∃ s', f s x = .ok s' ∧ I s') : ∀ (xs : List α) (s : σ), I s → (∀ x ∈ xs, P x) → ∃ s', foldR f s xs = .ok s' ∧ I s'
  | [], s, hs, _ => ⟨s, rfl, hs⟩
  | x :: xs, s, hs, hx => by
    obtain ⟨s1, e, i1⟩ := h s x hs (hx x List.mem_cons_self)
    obtain ⟨s2, e2, i2⟩ := foldR_inv I P h xs s1 i1 fun y hy => hx y (List.mem_cons_of_mem _ hy)
    exact ⟨s2, by show (f s x).bind _ = _; rw [e]; exact e2, i2⟩
theorem whileR_inv {c : σ → R Bool} {f : σ → R σ} (I : σ → Prop) (μ : σ → Nat) (h : ∀ s, I s → (c s = .ok true ∧ ∃ s', f s = .ok s' ∧ I s' ∧ μ s' < μ s) ∨ c s = .ok false) :
    ∀ (n : Nat) (s : σ), I s → μ s < n → ∃ s', whileR c f n s = .ok s' ∧ I s' ∧ c s' = .ok false
  | 0, s, _, hm => absurd hm (Nat.not_lt_zero _)
  | n + 1, s, hs, hm => by
    rcases h s hs with ⟨hc, s', hf, hi, hl⟩ | hc
    · obtain ⟨s2, e, i2, c2⟩ := whileR_inv I μ h n s' hi (by omega)
      refine ⟨s2, ?_, i2, c2⟩
      show (c s).bind _ = _
      rw [hc]
      show (f s).bind _ = _
      rw [hf]
      exact e
    · refine ⟨s, ?_, hs, hc⟩
      show (c s).bind _ = _
      rw [hc]
      rfl
end
theorem grd_ok {c : Prop} [Decidable c] {α : Type} {m : R α} (h : c) : grd c m = m := by
  unfold grd
  exact if_pos h
theorem rng_mem {lo x : Int} : ∀ {n : Nat}, x ∈ rng lo n → lo ≤ x ∧ x < lo + n := by
  intro n
  induction n generalizing lo with
  | zero => intro h; cases h
  | succ n ih =>
    intro h
    rcases List.mem_cons.mp h with rfl | h
    · omega
    · have := ih h
      omega
theorem mem_rng {lo x : Int} : ∀ {n : Nat}, lo ≤ x → x < lo + n → x ∈ rng lo n := by
  intro n
  induction n generalizing lo with
  | zero => intro h1 h2; omega
  | succ n ih =>
    intro h1 h2
    by_cases e : x = lo
    · exact e ▸ List.mem_cons_self
    · exact List.mem_cons_of_mem _ (ih (by omega) (by omega))
end Mir
set_option Elab.async false
set_option linter.all false
set_option maxRecDepth 100000
set_option maxHeartbeats 40000000
namespace Pf
open PySem PySem.Spec PyProof.Rows L2 Mir
open NdefX (Caps ndef_free ndef_fr)
open LamX (CodeO)
def topS (i : Nat) : Stmt := PySem.Challenge.pw_fieldmaps_k19_roots.main.body.getD i (.Pass ⟨0, 0, 0, 0⟩)

instance : Nm := ⟨fun l c => if (l, c) = posE (aArg 3 (aReturn (aBody 1 (topS 24)))) then "power_row.<locals>.<lambda>" else "", fun f => [("_texts" : Str), ("row" : Str)].contains f⟩

abbrev s__law_numbers : Stmt := topS 46
abbrev n__law_numbers : List Str := ["script", "found", "k", "cell", "turn", "i", "mixed"]
theorem sc__law_numbers : FnScope n__law_numbers ["script"] (defScope s__law_numbers) := ⟨rfl, rfl, rfl, by decide +kernel, rfl, by decide +kernel, by decide +kernel⟩
def m__law_numbers_b1 (s49 : (List Int) × Int) (x55 : Int) : R ((List Int) × Int) :=
  if (decide ((0 : Int) < s49.2)) = true then (grd (lenLt s49.1) <| R.ok ((s49.1 ++ [(s49.2 % (1009 : Int))]), (s49.2 / (1009 : Int)))) else (R.ok (s49.1, s49.2))
def m__law_numbers_b2 (x26 : Int) (s79 : (List Int) × Int) (x85 : Int) : R ((List Int) × Int) :=
  grd (lenLt s79.1) <| R.ok ((s79.1 ++ [((((((((s79.2 * (48271 : Int)) + ((69621 : Int) * (x85 + x26))) + (11 : Int)) % (2147483647 : Int)) * (16807 : Int)) + (((((s79.2 * (48271 : Int)) + ((69621 : Int) * (x85 + x26))) + (11 : Int)) % (2147483647 : Int)) / (65536 : Int))) % (2147483629 : Int)) % (1009 : Int))]), ((((s79.2 * (48271 : Int)) + ((69621 : Int) * (x85 + x26))) + (11 : Int)) % (2147483647 : Int)))
def m__law_numbers_b3 (a_script : (List Int)) (s20 : (List Int)) (x26 : Int) : R ((List Int)) :=
  (getL a_script x26).bind fun t37 => if (decide (((10 : Int) ^ ((18 : Int)).toNat) ≤ (pabs t37))) = true then ((grd (rgOk (60 : Int)) <| foldR m__law_numbers_b1 (s20, (pabs t37)) (rng 0 ((60 : Int)).toNat)).bind fun s44 => R.ok s44.1) else ((grd (rgOk (5 : Int)) <| foldR (m__law_numbers_b2 x26) (s20, (pabs t37)) (rng 0 ((5 : Int)).toNat)).bind fun s73 => R.ok s73.1)
def m__law_numbers (a_script : (List Int)) : R (List Int) :=
  (grd (rgOk (pmin ((a_script).length : Int) (63 : Int))) <| foldR (m__law_numbers_b3 a_script) ([] : List Int) (rng 0 ((pmin ((a_script).length : Int) (63 : Int))).toNat)).bind fun s11 => R.ok s11
def sp__law_numbers (K : PySem.W.Frag) : Sp := fun vs H Q _ => ∃ (a_script : (List Int)) (p_script : Addr), vs = [.ref p_script] ∧ Lq K rI H p_script a_script ∧ wp (m__law_numbers a_script) (fun r => ∀ p H', Gr [] H H' → H p = none → Ls rI H' p r → Q (.ref p) H') (fun _ => False)
theorem ok__law_numbers {P : Program} {w : World} {K : PySem.W.Frag} {mg : Str → Option Value} {base : Heap} {f : Addr} {fd : FuncData} (F : Fun K "_law_numbers" "_law_numbers" s__law_numbers f fd) (z_len : mg "len" = none) (z_min : mg "min" = none) (z_range : mg "range" = none) (z_abs : mg "abs" = none) : FnOk P w K mg base CX0 1 f fd ["script"] (sp__law_numbers K) := by
  refine F.ok sc__law_numbers (fun vs H Q E h => ?_) (fun cdv A outer s H0 vs Q E hr h => ?_)
  · obtain ⟨a_script, p_script, rfl, h_script, hm⟩ := h
    rfl
  · obtain ⟨a_script, p_script, rfl, h_script, hm⟩ := h
    have hm : wp (m__law_numbers a_script) _ _ := hm
    unfold m__law_numbers at hm
    refine ⟨_, (pss_cons (ps_set (i := 1) sc__law_numbers.nd rfl (Or.inl rfl) (pe_lst pa_nil)) (pss_cons (ps_for PassesOwn.never rfl (pi_range1 (by rfl) z_range (pa_cons (pe_callB (call_min2 rfl) (by rfl) z_min (by decide +kernel) (pa_cons (pe_callB (lenK (K := K) rfl) (by rfl) z_len PySem.boot_len (pa_cons (pv 0) pa_nil)) (pa_cons pe_int pa_nil))) pa_nil)) (pg_name (i := 2) sc__law_numbers.nd rfl (Or.inl rfl)) (pss_cons (ps_set (i := 3) sc__law_numbers.nd rfl (Or.inl rfl) (pe_callB call_abs (by rfl) z_abs (by decide +kernel) (pa_cons (pe_ix (ix_listK (K := K) rfl) (pv 0) (pv 2) (fun _ _ => rfl)) pa_nil))) (pss_one (ps_if (pt_cmpR op_ge (pv 3) (pe_op op_pow pe_int pe_int) (nomark _)) (pss_one (ps_for PassesOwn.never rfl (pi_range1 (by rfl) z_range (pa_cons pe_int pa_nil)) (pg_name (i := 4) sc__law_numbers.nd rfl (Or.inl rfl)) (pss_one (ps_if (pt_cmpR op_gt (pv 3) pe_int (nomark _)) (pss_cons (ps_expr (pe_bm PySem.F.plainAttrs_list PySem.F.slot_list_append PySem.F.type_list_append mt_append (pv 1) (pa_cons (pe_op op_mod (pv 3) pe_int) pa_nil))) (pss_one (ps_set (i := 3) sc__law_numbers.nd rfl (Or.inl rfl) (pe_op op_fdiv (pv 3) pe_int)))) pss_nil)))) (pss_one (ps_for PassesOwn.never rfl (pi_range1 (by rfl) z_range (pa_cons pe_int pa_nil)) (pg_name (i := 5) sc__law_numbers.nd rfl (Or.inl rfl)) (pss_cons (ps_set (i := 3) sc__law_numbers.nd rfl (Or.inl rfl) (pe_op op_mod (pe_op op_add (pe_op op_add (pe_op op_mul (pv 3) pe_int) (pe_op op_mul pe_int (pe_op op_add (pv 5) (pv 2)))) pe_int) pe_int)) (pss_cons (ps_set (i := 6) sc__law_numbers.nd rfl (Or.inl rfl) (pe_op op_mod (pe_op op_add (pe_op op_mul (pv 3) pe_int) (pe_op op_fdiv (pv 3) pe_int)) pe_int)) (pss_one (ps_expr (pe_bm PySem.F.plainAttrs_list PySem.F.slot_list_append PySem.F.type_list_append mt_append (pv 1) (pa_cons (pe_op op_mod (pv 6) pe_int) pa_nil)))))))))))) (pss_one (ps_ret (pv 1))))), ?_⟩
    have g0 := Gr.refl (A := []) H0
    refine rd_seq (rd_asg (rd_lst (rd_nil (mk_L (r := rI) (xs := ([] : List Int)) .nil (by show 0 ≤ sizeLine; decide) fun p1 H2 n3 g4 h5 => ?_))))
    have ne6 := sep_new (p := p1) h_script n3
    have nw7 := Gr.free g0 n3
    have h_script := Lq.g0 g4 h_script
    have g0 := g0.of0' g4
    refine rd_gn ?_
    refine rd_nx ?_
    refine seq_join (t := tFor _ _ _) (wp_bind hm) (fun (s : (List Int)) (σ : L2.St) (H : Hp) => ∃ (o15 : Option V) (o16 : Option V) (o17 : Option V) (o18 : Option V) (o19 : Option V), σ = [some (.ref p_script), some (.ref p1), o15, o16, o17, o18, o19] ∧ Gr [p1] H2 H ∧ Ls rI H p1 s) (fun N9 hN10 hm => ?_) (fun s11 σ H12 hr13 hm => ?_)
    · have gl14 := Gr.refl (A := [p1]) H2
      obtain ⟨c24, hm⟩ := wp_grd hm
      have gl25 := Gr.refl (A := [p1]) H2
      refine rd_for (rd_r1 (rd_cons (rd_cb (rd_cons (rd_cb (rd_cons (rd_var rfl (rd_nil (len_L h_script (rd_cons (rd_c (rd_nil (rd_min (rd_nil ⟨_, rfl, c24.1, c24.2, for_rngR (lo := 0) (n := ((pmin ((a_script).length : Int) (63 : Int))).toNat) (fun (s : (List Int)) (σ : L2.St) (H : Hp) => ∃ (o15 : Option V) (o16 : Option V) (o17 : Option V) (o18 : Option V) (o19 : Option V), σ = [some (.ref p_script), some (.ref p1), o15, o16, o17, o18, o19] ∧ Gr [p1] H2 H ∧ Ls rI H p1 s) (by exact wp_N hm (fun s σ' H' hr hz => hN10 s σ' H' hr hz)) ⟨_, _, _, _, _, rfl, gl25, h5⟩ (fun x26 s20 σ H21 N23 hr22 hm => ?_)⟩))))))))))))))
      unfold m__law_numbers_b3 at hm
      obtain ⟨o32, o33, o34, o35, o36, rfl, g30, h31⟩ := hr22
      have h_script := Lq.gS g30 (sep1 ne6 sep0) h_script
      have g0 := Gr.many g0 (all1 ((.inr nw7)) all0) g30
      have gl25 := Gr.many gl25 (all1 ((.inl (by simp))) all0) g30
      refine rd_gn (rd_seq (rd_asg (rd_cb (rd_cons (rd_op (rd_var rfl (rd_var rfl (ix_L h_script (wp_bind hm) fun t37 v38 h39 hm => ?_))))))))
      obtain rfl := h39
      refine rd_nil (rd_abs (rd_gn ?_))
      refine rd_nx ?_
      refine rd_if (rd_T (rd_op (rd_var rfl (rd_op (rd_c (rd_c (rd_rI (C := CPow) ⟨by decide, by decide, by decide⟩ (rd_rI0 (rd_kB ?_)))))))))
      refine iteB (fun e40 => ?_) (fun e40 => ?_)
      · have hm := ifT e40 (wp_iteB hm)
        refine nx_join (t := tFor _ _ _) (wp_bind hm) (fun (s : (List Int) × Int) (σ : L2.St) (H : Hp) => ∃ (o48 : Option V), σ = [some (.ref p_script), some (.ref p1), some (.int x26), some (.int s.2), o48, o35, o36] ∧ Gr [p1] H21 H ∧ Ls rI H p1 s.1) (fun N42 hN43 hm => ?_) (fun s44 σ H45 hr46 hm => ?_)
        · have gl47 := Gr.refl (A := [p1]) H21
          obtain ⟨c53, hm⟩ := wp_grd hm
          have gl54 := Gr.refl (A := [p1]) H21
          refine rd_for (rd_r1 (rd_cons (rd_c (rd_nil ⟨_, rfl, c53.1, c53.2, for_rngR (lo := 0) (n := ((60 : Int)).toNat) (fun (s : (List Int) × Int) (σ : L2.St) (H : Hp) => ∃ (o48 : Option V), σ = [some (.ref p_script), some (.ref p1), some (.int x26), some (.int s.2), o48, o35, o36] ∧ Gr [p1] H21 H ∧ Ls rI H p1 s.1) (by exact wp_N hm (fun s σ' H' hr hz => hN43 s σ' H' hr hz)) ⟨_, rfl, gl54, h31⟩ (fun x55 s49 σ H50 N52 hr51 hm => ?_)⟩))))
          unfold m__law_numbers_b1 at hm
          obtain ⟨o61, rfl, g59, h60⟩ := hr51
          have h_script := Lq.gS g59 (sep1 ne6 sep0) h_script
          have g0 := Gr.many g0 (all1 ((.inr nw7)) all0) g59
          have gl25 := Gr.many gl25 (all1 ((.inl (by simp))) all0) g59
          have gl54 := Gr.many gl54 (all1 ((.inl (by simp))) all0) g59
          refine rd_gn (rd_if (rd_T (rd_op (rd_var rfl (rd_c (rd_rI0 (rd_kB ?_)))))))
          refine iteB (fun e62 => ?_) (fun e62 => ?_)
          · have hm := ifT e62 (wp_iteB hm)
            obtain ⟨c63, hm⟩ := wp_grd hm
            refine rd_seq (rd_drop (rd_bm (rd_var rfl ⟨(Ls.ty h60), rd_cons (rd_op (rd_var rfl (rd_c (rd_rI (by show (0 : Int) < 1009; decide) (rd_nil (rd_append h60 rfl c63 fun H64 g65 h66 => ?_))))))⟩)))
            have h_script := Lq.gS g65 ne6 h_script
            have g0 := Gr.loc g0 nw7 g65
            have gl25 := Gr.at1 gl25 (by simp) g65
            have gl54 := Gr.at1 gl54 (by simp) g65
            refine rd_nx ?_
            refine rd_asg (rd_op (rd_var rfl (rd_c (rd_rI ⟨by decide, by decide⟩ (rd_gn ?_)))))
            exact hm _ _ ⟨_, rfl, gl54, h66⟩
          have hm := ifF e62 (wp_iteB hm)
          exact rd_next (hm _ _ ⟨_, rfl, gl54, h60⟩)
        obtain ⟨o69, rfl, g67, h68⟩ := hr46
        have h_script := Lq.gS g67 (sep1 ne6 sep0) h_script
        have g0 := Gr.many g0 (all1 ((.inr nw7)) all0) g67
        have gl25 := Gr.many gl25 (all1 ((.inl (by simp))) all0) g67
        exact hm _ _ ⟨_, _, _, _, _, rfl, gl25, h68⟩
      have hm := ifF e40 (wp_iteB hm)
      refine nx_join (t := tFor _ _ _) (wp_bind hm) (fun (s : (List Int) × Int) (σ : L2.St) (H : Hp) => ∃ (o77 : Option V) (o78 : Option V), σ = [some (.ref p_script), some (.ref p1), some (.int x26), some (.int s.2), o34, o77, o78] ∧ Gr [p1] H21 H ∧ Ls rI H p1 s.1) (fun N71 hN72 hm => ?_) (fun s73 σ H74 hr75 hm => ?_)
      · have gl76 := Gr.refl (A := [p1]) H21
        obtain ⟨c83, hm⟩ := wp_grd hm
        have gl84 := Gr.refl (A := [p1]) H21
        refine rd_for (rd_r1 (rd_cons (rd_c (rd_nil ⟨_, rfl, c83.1, c83.2, for_rngR (lo := 0) (n := ((5 : Int)).toNat) (fun (s : (List Int) × Int) (σ : L2.St) (H : Hp) => ∃ (o77 : Option V) (o78 : Option V), σ = [some (.ref p_script), some (.ref p1), some (.int x26), some (.int s.2), o34, o77, o78] ∧ Gr [p1] H21 H ∧ Ls rI H p1 s.1) (by exact wp_N hm (fun s σ' H' hr hz => hN72 s σ' H' hr hz)) ⟨_, _, rfl, gl84, h31⟩ (fun x85 s79 σ H80 N82 hr81 hm => ?_)⟩))))
        unfold m__law_numbers_b2 at hm
        obtain ⟨o91, o92, rfl, g89, h90⟩ := hr81
        have h_script := Lq.gS g89 (sep1 ne6 sep0) h_script
        have g0 := Gr.many g0 (all1 ((.inr nw7)) all0) g89
        have gl25 := Gr.many gl25 (all1 ((.inl (by simp))) all0) g89
        have gl84 := Gr.many gl84 (all1 ((.inl (by simp))) all0) g89
        refine rd_gn (rd_seq (rd_asg (rd_op (rd_op (rd_op (rd_op (rd_var rfl (rd_c (rd_rI (.inr ⟨by decide, by decide⟩) (rd_op (rd_c (rd_op (rd_var rfl (rd_var rfl (rd_rI0 (rd_rI (.inl ⟨by decide, by decide⟩) (rd_rI0 (rd_c (rd_rI0 (rd_c (rd_rI (by show (0 : Int) < 2147483647; decide) (rd_gn ?_))))))))))))))))))))))
        refine rd_nx ?_
        refine rd_seq (rd_asg (rd_op (rd_op (rd_op (rd_var rfl (rd_c (rd_rI (.inr ⟨by decide, by decide⟩) (rd_op (rd_var rfl (rd_c (rd_rI ⟨by decide, by decide⟩ (rd_rI0 (rd_c (rd_rI (by show (0 : Int) < 2147483629; decide) (rd_gn ?_)))))))))))))))
        refine rd_nx ?_
        obtain ⟨c93, hm⟩ := wp_grd hm
        refine rd_drop (rd_bm (rd_var rfl ⟨(Ls.ty h90), rd_cons (rd_op (rd_var rfl (rd_c (rd_rI (by show (0 : Int) < 1009; decide) (rd_nil (rd_append h90 rfl c93 fun H94 g95 h96 => ?_))))))⟩))
        have h_script := Lq.gS g95 ne6 h_script
        have g0 := Gr.loc g0 nw7 g95
        have gl25 := Gr.at1 gl25 (by simp) g95
        have gl84 := Gr.at1 gl84 (by simp) g95
        exact hm _ _ ⟨_, _, rfl, gl84, h96⟩
      obtain ⟨o99, o100, rfl, g97, h98⟩ := hr75
      have h_script := Lq.gS g97 (sep1 ne6 sep0) h_script
      have g0 := Gr.many g0 (all1 ((.inr nw7)) all0) g97
      have gl25 := Gr.many gl25 (all1 ((.inl (by simp))) all0) g97
      exact hm _ _ ⟨_, _, _, _, _, rfl, gl25, h98⟩
    obtain ⟨o103, o104, o105, o106, o107, rfl, g101, h102⟩ := hr13
    have h_script := Lq.gS g101 (sep1 ne6 sep0) h_script
    have g0 := Gr.many g0 (all1 ((.inr nw7)) all0) g101
    exact rd_ret (rd_var rfl (hm _ _ g0 nw7 h102))

abbrev s__law_next : Stmt := topS 47
abbrev n__law_next : List Str := ["numbers", "many"]
theorem sc__law_next : FnScope n__law_next ["numbers", "many"] (defScope s__law_next) := ⟨rfl, rfl, rfl, by decide +kernel, rfl, by decide +kernel, by decide +kernel⟩
def m__law_next (a_numbers : (List Int)) (a_many : Int) : R (Int × (List Int)) :=
  if (decide (((a_numbers).length : Int) = (0 : Int))) = true then (R.ok ((0 : Int), a_numbers)) else ((popAtL a_numbers (0 : Int)).bind fun t8 => grd (0 < a_many) <| R.ok ((t8.1 % a_many), t8.2))
def sp__law_next (K : PySem.W.Frag) : Sp := fun vs H Q _ => ∃ (a_numbers : (List Int)) (p_numbers : Addr) (a_many : Int), vs = [.ref p_numbers, (.int a_many)] ∧ Ls rI H p_numbers a_numbers ∧ wp (m__law_next a_numbers a_many) (fun r => ∀ H', Gr [p_numbers] H H' → Ls rI H' p_numbers r.2 → Q (.int r.1) H') (fun _ => False)
theorem ok__law_next {P : Program} {w : World} {K : PySem.W.Frag} {mg : Str → Option Value} {base : Heap} {f : Addr} {fd : FuncData} (F : Fun K "_law_next" "_law_next" s__law_next f fd) (z_len : mg "len" = none) : FnOk P w K mg base CX0 1 f fd ["numbers", "many"] (sp__law_next K) := by
  refine F.ok sc__law_next (fun vs H Q E h => ?_) (fun cdv A outer s H0 vs Q E hr h => ?_)
  · obtain ⟨a_numbers, p_numbers, a_many, rfl, h_numbers, hm⟩ := h
    rfl
  · obtain ⟨a_numbers, p_numbers, a_many, rfl, h_numbers, hm⟩ := h
    have hm : wp (m__law_next a_numbers a_many) _ _ := hm
    unfold m__law_next at hm
    refine ⟨_, (pss_cons (ps_if (pt_cmpR op_eqI (pe_callB (lenK (K := K) rfl) (by rfl) z_len PySem.boot_len (pa_cons (pv 0) pa_nil)) pe_int (nomark _)) (pss_one (ps_ret pe_int)) pss_nil) (pss_one (ps_ret (pe_op op_mod (pe_bm PySem.F.plainAttrs_list PySem.F.slot_list_pop PySem.F.type_list_pop mt_popAt (pv 0) (pa_cons pe_int pa_nil)) (pv 1))))), ?_⟩
    have g0 := Gr.refl (A := [p_numbers]) H0
    refine rd_seq (rd_if (rd_T (rd_op (rd_cb (rd_cons (rd_var rfl (rd_nil (len_L (Ls.q h_numbers) (rd_c (rd_rI0 (rd_kB ?_)))))))))))
    refine iteB (fun e1 => ?_) (fun e1 => ?_)
    · have hm := ifT e1 (wp_iteB hm)
      exact rd_ret (rd_c (hm _ g0 h_numbers))
    have hm := ifF e1 (wp_iteB hm)
    refine rd_next (rd_nx ?_)
    refine rd_ret (rd_op (rd_bm (rd_var rfl ⟨(Ls.ty h_numbers), rd_cons (rd_c (rd_nil (rd_popAt h_numbers (wp_bind hm) fun t8 v3 H5 g6 h7 h4 hm => ?_)))⟩)))
    have g0 := Gr.at1 g0 (by simp) g6
    obtain rfl := h4
    obtain ⟨c9, hm⟩ := wp_grd hm
    exact rd_var rfl (rd_rI c9 (hm _ g0 h7))

abbrev s__law_member : Stmt := topS 48
abbrev n__law_member : List Str := ["p", "n", "number", "found", "k"]
theorem sc__law_member : FnScope n__law_member ["p", "n", "number"] (defScope s__law_member) := ⟨rfl, rfl, rfl, by decide +kernel, rfl, by decide +kernel, by decide +kernel⟩
def m__law_member_b1 (a_p : Int) (s15 : Int × (List Int)) (x21 : Int) : R (Int × (List Int)) :=
  grd (0 < a_p) <| grd (lenLt s15.2) <| grd (CDiv s15.1 a_p) <| R.ok ((s15.1 / a_p), (s15.2 ++ [(s15.1 % a_p)]))
def m__law_member (a_p : Int) (a_n : Int) (a_number : Int) : R (List Int) :=
  (grd (rgOk a_n) <| foldR (m__law_member_b1 a_p) (a_number, ([] : List Int)) (rng 0 (a_n).toNat)).bind fun s10 => R.ok s10.2
def sp__law_member (K : PySem.W.Frag) : Sp := fun vs H Q _ => ∃ (a_p : Int) (a_n : Int) (a_number : Int), vs = [(.int a_p), (.int a_n), (.int a_number)] ∧ wp (m__law_member a_p a_n a_number) (fun r => ∀ v H', Gr [] H H' → (rT K rI) H' r v → Q v H') (fun _ => False)
theorem ok__law_member {P : Program} {w : World} {K : PySem.W.Frag} {mg : Str → Option Value} {base : Heap} {f : Addr} {fd : FuncData} (F : Fun K "_law_member" "_law_member" s__law_member f fd) (z_range : mg "range" = none) (z_tuple : mg "tuple" = none) : FnOk P w K mg base CX0 1 f fd ["p", "n", "number"] (sp__law_member K) := by
  refine F.ok sc__law_member (fun vs H Q E h => ?_) (fun cdv A outer s H0 vs Q E hr h => ?_)
  · obtain ⟨a_p, a_n, a_number, rfl, hm⟩ := h
    rfl
  · obtain ⟨a_p, a_n, a_number, rfl, hm⟩ := h
    have hm : wp (m__law_member a_p a_n a_number) _ _ := hm
    unfold m__law_member at hm
    refine ⟨_, (pss_cons (ps_set (i := 3) sc__law_member.nd rfl (Or.inl rfl) (pe_lst pa_nil)) (pss_cons (ps_for PassesOwn.never rfl (pi_range1 (by rfl) z_range (pa_cons (pv 1) pa_nil)) (pg_name (i := 4) sc__law_member.nd rfl (Or.inl rfl)) (pss_cons (ps_expr (pe_bm PySem.F.plainAttrs_list PySem.F.slot_list_append PySem.F.type_list_append mt_append (pv 3) (pa_cons (pe_op op_mod (pv 2) (pv 0)) pa_nil))) (pss_one (ps_set (i := 2) sc__law_member.nd rfl (Or.inl rfl) (pe_op op_fdiv (pv 2) (pv 0)))))) (pss_one (ps_ret (pe_callTy (tupleK (K := K) rfl) (by rfl) z_tuple (by decide +kernel) (pa_cons (pv 3) pa_nil)))))), ?_⟩
    have g0 := Gr.refl (A := []) H0
    refine rd_seq (rd_asg (rd_lst (rd_nil (mk_L (r := rI) (xs := ([] : List Int)) .nil (by show 0 ≤ sizeLine; decide) fun p1 H2 n3 g4 h5 => ?_))))
    have nw6 := Gr.free g0 n3
    have g0 := g0.of0' g4
    refine rd_gn ?_
    refine rd_nx ?_
    refine seq_join (t := tFor _ _ _) (wp_bind hm) (fun (s : Int × (List Int)) (σ : L2.St) (H : Hp) => ∃ (o14 : Option V), σ = [some (.int a_p), some (.int a_n), some (.int s.1), some (.ref p1), o14] ∧ Gr [p1] H2 H ∧ Ls rI H p1 s.2) (fun N8 hN9 hm => ?_) (fun s10 σ H11 hr12 hm => ?_)
    · have gl13 := Gr.refl (A := [p1]) H2
      obtain ⟨c19, hm⟩ := wp_grd hm
      have gl20 := Gr.refl (A := [p1]) H2
      refine rd_for (rd_r1 (rd_cons (rd_var rfl (rd_nil ⟨_, rfl, c19.1, c19.2, for_rngR (lo := 0) (n := (a_n).toNat) (fun (s : Int × (List Int)) (σ : L2.St) (H : Hp) => ∃ (o14 : Option V), σ = [some (.int a_p), some (.int a_n), some (.int s.1), some (.ref p1), o14] ∧ Gr [p1] H2 H ∧ Ls rI H p1 s.2) (by exact wp_N hm (fun s σ' H' hr hz => hN9 s σ' H' hr hz)) ⟨_, rfl, gl20, h5⟩ (fun x21 s15 σ H16 N18 hr17 hm => ?_)⟩))))
      unfold m__law_member_b1 at hm
      obtain ⟨o27, rfl, g25, h26⟩ := hr17
      have g0 := Gr.many g0 (all1 ((.inr nw6)) all0) g25
      have gl20 := Gr.many gl20 (all1 ((.inl (by simp))) all0) g25
      obtain ⟨c28, hm⟩ := wp_grd hm
      obtain ⟨c29, hm⟩ := wp_grd hm
      refine rd_gn (rd_seq (rd_drop (rd_bm (rd_var rfl ⟨(Ls.ty h26), rd_cons (rd_op (rd_var rfl (rd_var rfl (rd_rI c28 (rd_nil (rd_append h26 rfl c29 fun H30 g31 h32 => ?_))))))⟩))))
      have g0 := Gr.loc g0 nw6 g31
      have gl20 := Gr.at1 gl20 (by simp) g31
      refine rd_nx ?_
      obtain ⟨c33, hm⟩ := wp_grd hm
      refine rd_asg (rd_op (rd_var rfl (rd_var rfl (rd_rI c33 (rd_gn ?_)))))
      exact hm _ _ ⟨_, rfl, gl20, h32⟩
    obtain ⟨o36, rfl, g34, h35⟩ := hr12
    have g0 := Gr.many g0 (all1 ((.inr nw6)) all0) g34
    refine rd_ret (rd_cb (rd_cons (rd_var rfl (rd_nil (tup_of_L (K := K) (Ls.q h35) fun v37 H38 g39 h40 => ?_)))))
    have h35 := Ls.g0 g39 h35
    have g0 := g0.of0' g39
    exact hm _ _ g0 h40

abbrev s__law_modulus : Stmt := topS 49
abbrev n__law_modulus : List Str := ["p", "n", "number", "turn", "row", "values", "x", "k"]
theorem sc__law_modulus : FnScope n__law_modulus ["p", "n", "number"] (defScope s__law_modulus) := ⟨rfl, rfl, rfl, by decide +kernel, rfl, by decide +kernel, by decide +kernel⟩
def m__law_modulus_b1 (t25 : (List Int)) (x48 : Int) (s70 : List Int) (x71 : Int) : R (List Int) :=
  (getL (t25 ++ [(1 : Int)]) x71).bind fun t83 => grd (CMul x48 x48) <| grd (CMul x48 x48) <| grd (CMul (x48 * x48) x48) <| (getL ([(1 : Int), x48, (x48 * x48), ((x48 * x48) * x48)]) x71).bind fun t100 => grd (CMul t83 t100) <| grd (lenLt s70) <| R.ok (s70 ++ [(t83 * t100)])
def m__law_modulus_b2 (a_p : Int) (a_n : Int) (t25 : (List Int)) (s47 : List Int) (x48 : Int) : R (List Int) :=
  grd (rgOk (a_n + (1 : Int))) <| (foldR (m__law_modulus_b1 t25 x48) ([]) (rng 0 ((a_n + (1 : Int))).toNat)).bind fun s77 => grd (0 < a_p) <| grd (lenLt s47) <| R.ok (s47 ++ [(((s77).sum) % a_p)])
def m__law_modulus_b3 (a_p : Int) (a_n : Int) (a_number : Int) (s11 : Unit) (x17 : Int) : R (Lp (Unit) ((List Int))) :=
  (m__law_member a_p a_n (a_number + x17)).bind fun t25 => grd (lenOk (t25 ++ [(1 : Int)])) <| grd (rgOk a_p) <| (foldR (m__law_modulus_b2 a_p a_n t25) ([]) (rng 0 (a_p).toNat)).bind fun s54 => (orR (R.ok (decide (a_n = (1 : Int)))) (R.ok (!(s54).contains (0 : Int)))).bind fun t121 => if t121 = true then (R.ok (Lp.rt (t25 ++ [(1 : Int)]))) else (R.ok (Lp.nx ()))
def m__law_modulus (a_p : Int) (a_n : Int) (a_number : Int) : R (List Int) :=
  (grd (rgOk (200 : Int)) <| loopR (m__law_modulus_b3 a_p a_n a_number) () (rng 0 ((200 : Int)).toNat)).bind fun o => Le.thn o (fun s4 => R.ok ([(0 : Int), (1 : Int)])) (fun r => R.ok r)
def sp__law_modulus (K : PySem.W.Frag) : Sp := fun vs H Q _ => ∃ (a_p : Int) (a_n : Int) (a_number : Int), vs = [(.int a_p), (.int a_n), (.int a_number)] ∧ wp (m__law_modulus a_p a_n a_number) (fun r => ∀ v H', Gr [] H H' → (rT K rI) H' r v → Q v H') (fun _ => False)
theorem ok__law_modulus {P : Program} {w : World} {K : PySem.W.Frag} {mg : Str → Option Value} {base : Heap} {f : Addr} {fd : FuncData} (F : Fun K "_law_modulus" "_law_modulus" s__law_modulus f fd) (z_range : mg "range" = none) (z_sum : mg "sum" = none) (c__law_member : Cal P w K mg base CX0 1 "_law_member" ["p", "n", "number"] (sp__law_member K)) : FnOk P w K mg base CX0 2 f fd ["p", "n", "number"] (sp__law_modulus K) := by
  obtain ⟨f__law_member, fd__law_member, G__law_member, g__law_member, k__law_member, b__law_member⟩ := c__law_member
  refine F.ok sc__law_modulus (fun vs H Q E h => ?_) (fun cdv A outer s H0 vs Q E hr h => ?_)
  · obtain ⟨a_p, a_n, a_number, rfl, hm⟩ := h
    rfl
  · obtain ⟨a_p, a_n, a_number, rfl, hm⟩ := h
    have hm : wp (m__law_modulus a_p a_n a_number) _ _ := hm
    unfold m__law_modulus at hm
    refine ⟨_, (pss_cons (ps_for PassesOwn.never rfl (pi_range1 (by rfl) z_range (pa_cons pe_int pa_nil)) (pg_name (i := 3) sc__law_modulus.nd rfl (Or.inl rfl)) (pss_cons (ps_set (i := 4) sc__law_modulus.nd rfl (Or.inr rfl) (pe_op (catAK (K := K) rfl) (pe_call G__law_member (hr.mono (by decide)) (by rfl) g__law_member k__law_member b__law_member .nil pass0 (pa_cons (pv 0) (pa_cons (pv 1) (pa_cons (pe_op op_add (pv 2) (pv 3)) pa_nil)))) (pe_tup (pa_cons pe_int pa_nil)))) (pss_cons (ps_setLc (i := 5) (own := [("x", 6)]) (g := gName 6) (tt := tYes) rfl sc__law_modulus.nd rfl rfl (sw_true rfl rfl rfl (by decide +kernel)) (pi_range1 (by rfl) z_range (pa_cons (pv 0) pa_nil)) (blkOk_by (own := [("x", 6)]) (N := n__law_modulus) (sc := defScope s__law_modulus) (by decide +kernel)) (fun _ _ _ _ _ => pg_name (i := 6) sc__law_modulus.nd rfl (Or.inr rfl)) (fun _ _ _ _ _ => pts_nil) (fun _ _ _ _ _ => (pe_op op_mod (pe_callB (sumK (K := K) rfl rfl) (by rfl) z_sum (by decide +kernel) (pa_cons (pe_lc (own := [("k", 7)]) (g := gName 7) (tt := tYes) rfl sc__law_modulus.nd (pi_range1 (by rfl) z_range (pa_cons (pe_op op_add (pv 1) pe_int) pa_nil)) (blkOk_by (by kernel_rfl)) (fun _ _ _ _ _ => pg_name (i := 7) sc__law_modulus.nd rfl (Or.inl rfl)) (fun _ _ _ _ _ => pts_nil) (fun _ _ _ _ _ => (pe_op op_mul (pe_ix (ix_tupK (K := K) rfl) (pv 4) (pv 7) (fun _ _ => rfl)) (pe_ix (ix_listK (K := K) rfl) (pe_lst (pa_cons pe_int (pa_cons (pv 6) (pa_cons (pe_op op_mul (pv 6) (pv 6)) (pa_cons (pe_op op_mul (pe_op op_mul (pv 6) (pv 6)) (pv 6)) pa_nil))))) (pv 7) (fun _ _ => rfl))))) pa_nil)) (pv 0)))) (pss_one (ps_if (PW.pt (pw_or (pt_cmpR op_eqI (pv 1) pe_int (nomark _)) (pw_or1 (pt_cmpR (notInK (K := K) rfl) pe_int (pv 5) rfl)))) (pss_one (ps_ret (pv 4))) pss_nil))))) (pss_one (ps_ret (pe_tup (pa_cons pe_int (pa_cons pe_int pa_nil)))))), ?_⟩
    have g0 := Gr.refl (A := []) H0
    refine seq_joinL (t := tFor _ _ _) (wp_le hm) (fun (s : Unit) (σ : L2.St) (H : Hp) => ∃ (o8 : Option V) (o9 : Option V) (o10 : Option V), σ = [some (.int a_p), some (.int a_n), some (.int a_number), o8, o9, o10, none, none] ∧ Gr [] H0 H) (fun N2 hm => ?_) (fun s4 σ H5 hr6 hm => ?_)
    · have gl7 := Gr.refl (A := []) H0
      obtain ⟨c15, hm⟩ := wp_grd hm
      have gl16 := Gr.refl (A := []) H0
      refine rd_for (rd_r1 (rd_cons (rd_c (rd_nil ⟨_, rfl, c15.1, c15.2, for_rngL (lo := 0) (n := ((200 : Int)).toNat) (fun (s : Unit) (σ : L2.St) (H : Hp) => ∃ (o8 : Option V) (o9 : Option V) (o10 : Option V), σ = [some (.int a_p), some (.int a_n), some (.int a_number), o8, o9, o10, none, none] ∧ Gr [] H0 H) (by exact wp_imp hm (fun o ho => leP_imp ho (fun s hz σ' H' hr => hz σ' H' hr) (fun _ h => h)) (fun _ e => e)) ⟨_, _, _, rfl, gl16⟩ (fun x17 s11 σ H12 N14 hr13 hm => ?_)⟩))))
      unfold m__law_modulus_b3 at hm
      obtain ⟨o22, o23, o24, rfl, g21⟩ := hr13
      have g0 := Gr.of0' g0 g21
      have gl16 := Gr.of0' gl16 g21
      refine rd_gn (rd_seq (rd_asg (rd_op (rd_call (rd_cons (rd_var rfl (rd_cons (rd_var rfl (rd_cons (rd_op (rd_var rfl (rd_var rfl (rd_rI0 (rd_nil ⟨_, _, _, rfl, wp_imp (wp_bind hm) (fun t25 hm v28 H26 g27 h29 => ?_) (fun _ e => e)⟩))))))))))))))
      have g0 := g0.of0' g27
      have gl16 := gl16.of0' g27
      refine rd_tup (rd_cons (rd_c (rd_nil (mk_T (K := K) (r := rI) (xs := [(1 : Int)]) (.cons rfl .nil) (by show 1 ≤ sizeLine; decide) fun v30 H31 g32 h33 => ?_))))
      have h29 := Imm.mono g32 h29
      have g0 := g0.of0' g32
      have gl16 := gl16.of0' g32
      obtain ⟨c34, hm⟩ := wp_grd hm
      refine cat_TA h29 h33 c34 fun v35 H36 g37 h38 => ?_
      have g0 := g0.of0' g37
      have gl16 := gl16.of0' g37
      refine rd_gn ?_
      refine rd_nx ?_
      obtain ⟨c39, hm⟩ := wp_grd hm
      refine rd_seq (rd_asg (rd_lc (rd_r1 (rd_cons (rd_var rfl (rd_nil ⟨_, rfl, c39.1, c39.2, fun p40 n41 => ?_⟩))))))
      have nw42 := Gr.free g0 n41
      have nw43 := Gr.free gl16 n41
      refine lc_rng (lo := 0) (n := (a_p).toNat) (fun (s : List Int) (H : Hp) => Gr [] H36 H ∧ Ls rI H p40 s) (wp_bind hm) ⟨Gr.new n41, ⟨[], upd_same, .nil⟩⟩ (fun x48 s47 H51 N52 hr53 hm => ?_) (fun s54 H55 hr56 hm => ?_)
      · unfold m__law_modulus_b2 at hm
        obtain ⟨g57, h58⟩ := hr53
        have h38 := Imm.mono g57 h38
        have g0 := Gr.of0' g0 g57
        have gl16 := Gr.of0' gl16 g57
        have gl59 := g57
        obtain ⟨c60, hm⟩ := wp_grd hm
        refine rd_gn ⟨rfl, rd_yes (iteT (rd_op (rd_cb (rd_cons (rd_lc (rd_r1 (rd_cons (rd_op (rd_var rfl (rd_c (rd_rI0 (rd_nil ⟨_, rfl, c60.1, c60.2, fun p61 n62 => ?_⟩))))))))))))⟩
        have ne63 : p40 ≠ p61 := Ls.ne h58 n62
        have nw64 := Gr.free g0 n62
        have nw65 := Gr.free gl16 n62
        have nw66 := Gr.free gl59 n62
        refine lc_rng (lo := 0) (n := ((a_n + (1 : Int))).toNat) (fun (s : List Int) (H : Hp) => Gr [] H51 H ∧ Ls rI H p61 s) (wp_bind hm) ⟨Gr.new n62, ⟨[], upd_same, .nil⟩⟩ (fun x71 s70 H74 N75 hr76 hm => ?_) (fun s77 H78 hr79 hm => ?_)
        · unfold m__law_modulus_b1 at hm
          obtain ⟨g80, h81⟩ := hr76
          have h38 := Imm.mono g80 h38
          have h58 := Ls.gA g80 nin0 h58
          have g0 := Gr.of0' g0 g80
          have gl16 := Gr.of0' gl16 g80
          have gl59 := Gr.of0' gl59 g80
          have gl82 := g80
          refine rd_gn ⟨rfl, rd_yes (iteT (rd_op (rd_op (rd_var rfl (rd_var rfl (ix_T h38 (wp_bind hm) fun t83 v84 h85 hm => ?_))))))⟩
          obtain rfl := h85
          obtain ⟨c86, hm⟩ := wp_grd hm
          obtain ⟨c87, hm⟩ := wp_grd hm
          obtain ⟨c88, hm⟩ := wp_grd hm
          refine rd_op (rd_lst (rd_cons (rd_c (rd_cons (rd_var rfl (rd_cons (rd_op (rd_var rfl (rd_var rfl (rd_rI (c86) (rd_cons (rd_op (rd_op (rd_var rfl (rd_var rfl (rd_rI (c87) (rd_var rfl (rd_rI (c88) (rd_nil (mk_L (r := rI) (xs := [(1 : Int), x48, (x48 * x48), ((x48 * x48) * x48)]) (.cons rfl (.cons rfl (.cons rfl (.cons rfl .nil)))) (by show 4 ≤ sizeLine; decide) fun p89 H90 n91 g92 h93 => ?_))))))))))))))))))))
          have ne94 : p40 ≠ p89 := Ls.ne h58 n91
          have ne95 : p61 ≠ p89 := Ls.ne h81 n91
          have nw96 := Gr.free g0 n91
          have nw97 := Gr.free gl16 n91
          have nw98 := Gr.free gl59 n91
          have nw99 := Gr.free gl82 n91
          have h38 := Imm.mono g92 h38
          have h58 := Ls.g0 g92 h58
          have h81 := Ls.g0 g92 h81
          have g0 := g0.of0' g92
          have gl16 := gl16.of0' g92
          have gl59 := gl59.of0' g92
          have gl82 := gl82.of0' g92
          refine rd_var rfl (ix_L (Ls.q h93) (wp_bind hm) fun t100 v101 h102 hm => ?_)
          obtain rfl := h102
          obtain ⟨c103, hm⟩ := wp_grd hm
          obtain ⟨c104, hm⟩ := wp_grd hm
          refine rd_rI (c103) (lc_add h81 rfl c104 fun H105 g106 h107 => ?_)
          have h38 := Imm.mono g106 h38
          have h58 := Ls.g1 g106 ne63 h58
          have g0 := Gr.loc g0 nw64 g106
          have gl16 := Gr.loc gl16 nw65 g106
          have gl59 := Gr.loc gl59 nw66 g106
          have gl82 := Gr.loc gl82 n62 g106
          exact hm _ ⟨gl82, h107⟩
        obtain ⟨g108, h109⟩ := hr79
        have h38 := Imm.mono g108 h38
        have h58 := Ls.gA g108 nin0 h58
        have g0 := Gr.of0' g0 g108
        have gl16 := Gr.of0' gl16 g108
        have gl59 := Gr.of0' gl59 g108
        obtain ⟨c110, hm⟩ := wp_grd hm
        obtain ⟨c111, hm⟩ := wp_grd hm
        refine rd_nil (sum_L (Ls.q h109) (rd_var rfl (rd_rI c110 (lc_add h58 rfl c111 fun H112 g113 h114 => ?_))))
        have h38 := Imm.mono g113 h38
        have g0 := Gr.loc g0 nw42 g113
        have gl16 := Gr.loc gl16 nw43 g113
        have gl59 := Gr.loc gl59 n41 g113
        exact hm _ ⟨gl59, h114⟩
      obtain ⟨g115, h116⟩ := hr56
      have h38 := Imm.mono g115 h38
      have g0 := Gr.of0' g0 g115
      have gl16 := Gr.of0' gl16 g115
      refine rd_gn ?_
      refine rd_nx ?_
      refine rd_if ((ev_or (fun Q hm => by
          have gb117 := Gr.refl (A := []) H55
          exact rd_T (rd_op (rd_var rfl (rd_c (rd_rI0 (rd_kB (hm _ gb117))))))) (fun H118 g119 Q hm => by
          have h38 := Imm.mono g119 h38
          have h116 := Ls.g0 g119 h116
          have g0 := g0.of0' g119
          have gl16 := gl16.of0' g119
          have gb120 := Gr.refl (A := []) H118
          exact rd_T (rd_op (rd_c (rd_var rfl (niL_I (Ls.q h116) (rd_kB (hm _ gb120)))))))) _ (wp_imp (wp_bind hm) (fun t121 hm H122 g123 => ?_) (fun _ e => e)))
      have h38 := Imm.mono g123 h38
      have h116 := Ls.g0 g123 h116
      have g0 := g0.of0' g123
      have gl16 := gl16.of0' g123
      refine iteB (fun e124 => ?_) (fun e124 => ?_)
      · have hm := ifT e124 (wp_iteB hm)
        exact rd_ret (rd_var rfl (hm _ _ g0 h38))
      have hm := ifF e124 (wp_iteB hm)
      exact rd_next (hm _ _ ⟨_, _, _, rfl, gl16⟩)
    obtain ⟨o126, o127, o128, rfl, g125⟩ := hr6
    have g0 := Gr.of0' g0 g125
    refine rd_ret (rd_tup (rd_cons (rd_c (rd_cons (rd_c (rd_nil (mk_T (K := K) (r := rI) (xs := [(0 : Int), (1 : Int)]) (.cons rfl (.cons rfl .nil)) (by show 2 ≤ sizeLine; decide) fun v129 H130 g131 h132 => ?_)))))))
    have g0 := g0.of0' g131
    exact hm _ _ g0 h132

abbrev s_is_integer : Stmt := topS 7
abbrev n_is_integer : List Str := ["value"]
theorem sc_is_integer : FnScope n_is_integer ["value"] (defScope s_is_integer) := ⟨rfl, rfl, rfl, by decide +kernel, rfl, by decide +kernel, by decide +kernel⟩
def m_is_integer (a_value : V) : R Bool :=
  (andR (grd (scalV a_value = true) <| R.ok (isIntV a_value)) (grd (scalV a_value = true) <| R.ok (!(isBoolV a_value)))).bind fun t7 => R.ok t7
def sp_is_integer (K : PySem.W.Frag) : Sp := fun vs H Q _ => ∃ (a_value : V), vs = [a_value] ∧ wp (m_is_integer a_value) (fun r => ∀ H', Gr [] H H' → Q (.bl r) H') (fun _ => False)
theorem ok_is_integer {P : Program} {w : World} {K : PySem.W.Frag} {mg : Str → Option Value} {base : Heap} {f : Addr} {fd : FuncData} (F : Fun K "is_integer" "is_integer" s_is_integer f fd) (z_isinstance : mg "isinstance" = none) (z_int : mg "int" = none) (z_bool : mg "bool" = none) : FnOk P w K mg base CX0 1 f fd ["value"] (sp_is_integer K) := by
  refine F.ok sc_is_integer (fun vs H Q E h => ?_) (fun cdv A outer s H0 vs Q E hr h => ?_)
  · obtain ⟨a_value, rfl, hm⟩ := h
    rfl
  · obtain ⟨a_value, rfl, hm⟩ := h
    have hm : wp (m_is_integer a_value) _ _ := hm
    unfold m_is_integer at hm
    refine ⟨_, (pss_one (ps_ret (pe_and (pe_callB (isiK (K := K) rfl) (by rfl) z_isinstance (by decide +kernel) (pa_cons (pv 0) (pa_cons (pe_bltn (by rfl) z_int (by decide +kernel) (show L2.RelV (.ty "int") (.type "int") from rfl)) pa_nil))) (pe_one (pe_not (pe_callB (isiK (K := K) rfl) (by rfl) z_isinstance (by decide +kernel) (pa_cons (pv 0) (pa_cons (pe_bltn (by rfl) z_bool (by decide +kernel) (show L2.RelV (.ty "bool") (.type "bool") from rfl)) pa_nil)))))))), ?_⟩
    have g0 := Gr.refl (A := []) H0
    refine rd_ret ((ev_andV (fun Q hm => by
        have gb1 := Gr.refl (A := []) H0
        obtain ⟨c2, hm⟩ := wp_grd hm
        exact rd_cb (rd_cons (rd_var rfl (rd_cons (rd_c (rd_nil (isi_intV c2 (hm _ _ gb1 rfl)))))))) (fun H3 g4 Q hm => by
        have g0 := g0.of0' g4
        have gb5 := Gr.refl (A := []) H3
        obtain ⟨c6, hm⟩ := wp_grd hm
        exact rd_notV (rd_cb (rd_cons (rd_var rfl (rd_cons (rd_c (rd_nil (isi_boolV c6 (rd_kN (hm _ _ gb5 rfl))))))))))) _ (wp_imp (wp_bind hm) (fun t7 hm v10 H8 g9 h11 => ?_) (fun _ e => e)))
    obtain rfl := h11
    have g0 := g0.of0' g9
    exact hm _ g0

abbrev s_least_divisor : Stmt := topS 9
abbrev n_least_divisor : List Str := ["n", "start", "candidate"]
theorem sc_least_divisor : FnScope n_least_divisor ["n", "start"] (defScope s_least_divisor) := ⟨rfl, rfl, rfl, by decide +kernel, rfl, by decide +kernel, by decide +kernel⟩
def m_least_divisor_b1 (a_n : Int) (s8 : Int) : R Bool :=
  grd (CMul s8 s8) <| R.ok (decide ((s8 * s8) ≤ a_n))
def m_least_divisor_b2 (a_n : Int) (s8 : Int) : R (Lp (Int) (Int)) :=
  grd (0 < s8) <| if (decide ((a_n % s8) = (0 : Int))) = true then (R.ok (Lp.rt s8)) else (((R.ok (decide (s8 = (2 : Int)))).bind fun b => if b = true then R.ok (3 : Int) else R.ok (s8 + (2 : Int))).bind fun t29 => R.ok (Lp.nx t29))
def m_least_divisor (a_n : Int) (a_start : Int) : R Int :=
  (whileL (m_least_divisor_b1 a_n) (m_least_divisor_b2 a_n) 100000 a_start).bind fun o => Le.thn o (fun s4 => R.ok a_n) (fun r => R.ok r)
def sp_least_divisor (K : PySem.W.Frag) : Sp := fun vs H Q _ => ∃ (a_n : Int) (a_start : Int), vs = [(.int a_n), (.int a_start)] ∧ wp (m_least_divisor a_n a_start) (fun r => ∀ H', Gr [] H H' → Q (.int r) H') (fun _ => False)
theorem ok_least_divisor {P : Program} {w : World} {K : PySem.W.Frag} {mg : Str → Option Value} {base : Heap} {f : Addr} {fd : FuncData} (F : Fun K "least_divisor" "least_divisor" s_least_divisor f fd) : FnOk P w K mg base CX0 1 f fd ["n", "start"] (sp_least_divisor K) := by
  refine F.ok sc_least_divisor (fun vs H Q E h => ?_) (fun cdv A outer s H0 vs Q E hr h => ?_)
  · obtain ⟨a_n, a_start, rfl, hm⟩ := h
    rfl
  · obtain ⟨a_n, a_start, rfl, hm⟩ := h
    have hm : wp (m_least_divisor a_n a_start) _ _ := hm
    unfold m_least_divisor at hm
    refine ⟨_, (pss_cons (ps_set (i := 2) sc_least_divisor.nd rfl (Or.inl rfl) (pv 1)) (pss_cons (ps_while PassesOwn.never (pt_cmpR op_le (pe_op op_mul (pv 2) (pv 2)) (pv 0) (nomark _)) (pss_cons (ps_if (pt_cmpR op_eqI (pe_op op_mod (pv 0) (pv 2)) pe_int (nomark _)) (pss_one (ps_ret (pv 2))) pss_nil) (pss_one (ps_set (i := 2) sc_least_divisor.nd rfl (Or.inl rfl) (pe_ifExp (pt_cmpR op_eqI (pv 2) pe_int (nomark _)) pe_int (pe_op op_add (pv 2) pe_int)))))) (pss_one (ps_ret (pv 0))))), ?_⟩
    have g0 := Gr.refl (A := []) H0
    refine rd_seq (rd_asg (rd_var rfl (rd_gn ?_)))
    refine rd_nx ?_
    refine seq_joinL (t := tWhile _ _) (wp_le hm) (fun (s : Int) (σ : L2.St) (H : Hp) => σ = [some (.int a_n), some (.int a_start), some (.int s)] ∧ Gr [] H0 H) (fun N2 hm => ?_) (fun s4 σ H5 hr6 hm => ?_)
    · have gl7 := Gr.refl (A := []) H0
      refine whl_L (fun (s : Int) (σ : L2.St) (H : Hp) => σ = [some (.int a_n), some (.int a_start), some (.int s)] ∧ Gr [] H0 H) (by exact wp_imp hm (fun o ho => leP_imp ho (fun s hz σ' H' hr => hz σ' H' hr) (fun _ h => h)) (fun _ e => e)) ⟨rfl, gl7⟩ (fun s8 σ H9 N11 W12 m13 hW14 hr10 hm => ?_)
      unfold m_least_divisor_b1 at hm
      obtain ⟨rfl, g17⟩ := hr10
      have g0 := Gr.of0' g0 g17
      have gl7 := Gr.of0' gl7 g17
      obtain ⟨c18, hm⟩ := wp_grd hm
      refine rd_T (rd_op (rd_op (rd_var rfl (rd_var rfl (rd_rI (c18) (rd_var rfl (rd_rI0 (rd_kB ?_))))))))
      refine iteB' (fun e19 => ?_) (fun e19 => ?_)
      · exact ifF e19 hm _ _ ⟨rfl, gl7⟩
      have hm := ifT e19 hm
      unfold m_least_divisor_b2 at hm
      refine ⟨N11, hW14, ?_⟩
      obtain ⟨c20, hm⟩ := wp_grd hm
      refine rd_seq (rd_if (rd_T (rd_op (rd_op (rd_var rfl (rd_var rfl (rd_rI c20 (rd_c (rd_rI0 (rd_kB ?_))))))))))
      refine iteB (fun e21 => ?_) (fun e21 => ?_)
      · have hm := ifT e21 (wp_iteB hm)
        exact rd_ret (rd_var rfl (hm _ g0))
      have hm := ifF e21 (wp_iteB hm)
      refine rd_next (rd_nx ?_)
      refine rd_asg ((ev_if (r := rI) (fun Q hm => by
          have gb22 := Gr.refl (A := []) H9
          exact rd_T (rd_op (rd_var rfl (rd_c (rd_rI0 (rd_kB (hm _ gb22))))))) (fun H23 g24 Q hm => by
          have g0 := g0.of0' g24
          have gl7 := gl7.of0' g24
          have gb25 := Gr.refl (A := []) H23
          exact rd_c (hm _ _ gb25 rfl)) (fun H26 g27 Q hm => by
          have g0 := g0.of0' g27
          have gl7 := gl7.of0' g27
          have gb28 := Gr.refl (A := []) H26
          exact rd_op (rd_var rfl (rd_c (rd_rI0 (hm _ _ gb28 rfl)))))) _ (wp_imp (wp_bind hm) (fun t29 hm v30 H31 g32 h33 => ?_) (fun _ e => e)))
      have g0 := g0.of0' g32
      have gl7 := gl7.of0' g32
      obtain rfl := h33
      refine rd_gn ?_
      exact hm _ _ ⟨rfl, gl7⟩
    obtain ⟨rfl, g34⟩ := hr6
    have g0 := Gr.of0' g0 g34
    exact rd_ret (rd_var rfl (hm _ g0))

abbrev s_is_prime : Stmt := topS 8
abbrev n_is_prime : List Str := ["n"]
theorem sc_is_prime : FnScope n_is_prime ["n"] (defScope s_is_prime) := ⟨rfl, rfl, rfl, by decide +kernel, rfl, by decide +kernel, by decide +kernel⟩
def m_is_prime (a_n : Int) : R Bool :=
  (andR (R.ok (decide ((1 : Int) < a_n))) ((m_least_divisor a_n (2 : Int)).bind fun t5 => R.ok (decide (t5 = a_n)))).bind fun t8 => R.ok t8
def sp_is_prime (K : PySem.W.Frag) : Sp := fun vs H Q _ => ∃ (a_n : Int), vs = [(.int a_n)] ∧ wp (m_is_prime a_n) (fun r => ∀ H', Gr [] H H' → Q (.bl r) H') (fun _ => False)
theorem ok_is_prime {P : Program} {w : World} {K : PySem.W.Frag} {mg : Str → Option Value} {base : Heap} {f : Addr} {fd : FuncData} (F : Fun K "is_prime" "is_prime" s_is_prime f fd) (c_least_divisor : Cal P w K mg base CX0 1 "least_divisor" ["n", "start"] (sp_least_divisor K)) : FnOk P w K mg base CX0 2 f fd ["n"] (sp_is_prime K) := by
  obtain ⟨f_least_divisor, fd_least_divisor, G_least_divisor, g_least_divisor, k_least_divisor, b_least_divisor⟩ := c_least_divisor
  refine F.ok sc_is_prime (fun vs H Q E h => ?_) (fun cdv A outer s H0 vs Q E hr h => ?_)
  · obtain ⟨a_n, rfl, hm⟩ := h
    rfl
  · obtain ⟨a_n, rfl, hm⟩ := h
    have hm : wp (m_is_prime a_n) _ _ := hm
    unfold m_is_prime at hm
    refine ⟨_, (pss_one (ps_ret (pe_and (pe_cmpR op_gt (pv 0) pe_int (nomark _)) (pe_one (pe_cmpR op_eqI (pe_call G_least_divisor (hr.mono (by decide)) (by rfl) g_least_divisor k_least_divisor b_least_divisor .nil pass0 (pa_cons (pv 0) (pa_cons pe_int pa_nil))) (pv 0) (nomark _)))))), ?_⟩
    have g0 := Gr.refl (A := []) H0
    refine rd_ret ((ev_andV (fun Q hm => by
        have gb1 := Gr.refl (A := []) H0
        exact rd_op (rd_var rfl (rd_c (rd_rI0 (hm _ _ gb1 rfl))))) (fun H2 g3 Q hm => by
        have g0 := g0.of0' g3
        have gb4 := Gr.refl (A := []) H2
        refine rd_op (rd_call (rd_cons (rd_var rfl (rd_cons (rd_c (rd_nil ⟨_, _, rfl, wp_imp (wp_bind hm) (fun t5 hm H6 g7 => ?_) (fun _ e => e)⟩))))))
        have g0 := g0.of0' g7
        have gb4 := gb4.of0' g7
        exact rd_var rfl (rd_rI0 (hm _ _ gb4 rfl)))) _ (wp_imp (wp_bind hm) (fun t8 hm v11 H9 g10 h12 => ?_) (fun _ e => e)))
    obtain rfl := h12
    have g0 := g0.of0' g10
    exact hm _ g0

abbrev s_power_within : Stmt := topS 12
abbrev n_power_within : List Str := ["a", "k", "limit", "power", "_"]
theorem sc_power_within : FnScope n_power_within ["a", "k", "limit"] (defScope s_power_within) := ⟨rfl, rfl, rfl, by decide +kernel, rfl, by decide +kernel, by decide +kernel⟩
def m_power_within_b1 (a_a : Int) (a_limit : Int) (s9 : Int) (x15 : Int) : R (Lp (Int) ((Option Int))) :=
  grd (CMul s9 a_a) <| if (decide (a_limit < (s9 * a_a))) = true then (R.ok (Lp.rt (none : (Option Int)))) else (R.ok (Lp.nx (s9 * a_a)))
def m_power_within (a_a : Int) (a_k : Int) (a_limit : Int) : R (Option Int) :=
  (grd (rgOk a_k) <| loopR (m_power_within_b1 a_a a_limit) (1 : Int) (rng 0 (a_k).toNat)).bind fun o => Le.thn o (fun s4 => R.ok (some s4)) (fun r => R.ok r)
def sp_power_within (K : PySem.W.Frag) : Sp := fun vs H Q _ => ∃ (a_a : Int) (a_k : Int) (a_limit : Int), vs = [(.int a_a), (.int a_k), (.int a_limit)] ∧ wp (m_power_within a_a a_k a_limit) (fun r => ∀ v H', Gr [] H H' → (rO rI) H' r v → Q v H') (fun _ => False)
theorem ok_power_within {P : Program} {w : World} {K : PySem.W.Frag} {mg : Str → Option Value} {base : Heap} {f : Addr} {fd : FuncData} (F : Fun K "power_within" "power_within" s_power_within f fd) (z_range : mg "range" = none) : FnOk P w K mg base CX0 1 f fd ["a", "k", "limit"] (sp_power_within K) := by
  refine F.ok sc_power_within (fun vs H Q E h => ?_) (fun cdv A outer s H0 vs Q E hr h => ?_)
  · obtain ⟨a_a, a_k, a_limit, rfl, hm⟩ := h
    rfl
  · obtain ⟨a_a, a_k, a_limit, rfl, hm⟩ := h
    have hm : wp (m_power_within a_a a_k a_limit) _ _ := hm
    unfold m_power_within at hm
    refine ⟨_, (pss_cons (ps_set (i := 3) sc_power_within.nd rfl (Or.inl rfl) pe_int) (pss_cons (ps_for PassesOwn.never rfl (pi_range1 (by rfl) z_range (pa_cons (pv 1) pa_nil)) (pg_name (i := 4) sc_power_within.nd rfl (Or.inl rfl)) (pss_cons (ps_set (i := 3) sc_power_within.nd rfl (Or.inl rfl) (pe_op op_mul (pv 3) (pv 0))) (pss_one (ps_if (pt_cmpR op_gt (pv 3) (pv 2) (nomark _)) (pss_one (ps_ret pe_non)) pss_nil)))) (pss_one (ps_ret (pv 3))))), ?_⟩
    have g0 := Gr.refl (A := []) H0
    refine rd_seq (rd_asg (rd_c (rd_gn ?_)))
    refine rd_nx ?_
    refine seq_joinL (t := tFor _ _ _) (wp_le hm) (fun (s : Int) (σ : L2.St) (H : Hp) => ∃ (o8 : Option V), σ = [some (.int a_a), some (.int a_k), some (.int a_limit), some (.int s), o8] ∧ Gr [] H0 H) (fun N2 hm => ?_) (fun s4 σ H5 hr6 hm => ?_)
    · have gl7 := Gr.refl (A := []) H0
      obtain ⟨c13, hm⟩ := wp_grd hm
      have gl14 := Gr.refl (A := []) H0
      refine rd_for (rd_r1 (rd_cons (rd_var rfl (rd_nil ⟨_, rfl, c13.1, c13.2, for_rngL (lo := 0) (n := (a_k).toNat) (fun (s : Int) (σ : L2.St) (H : Hp) => ∃ (o8 : Option V), σ = [some (.int a_a), some (.int a_k), some (.int a_limit), some (.int s), o8] ∧ Gr [] H0 H) (by exact wp_imp hm (fun o ho => leP_imp ho (fun s hz σ' H' hr => hz σ' H' hr) (fun _ h => h)) (fun _ e => e)) ⟨_, rfl, gl14⟩ (fun x15 s9 σ H10 N12 hr11 hm => ?_)⟩))))
      unfold m_power_within_b1 at hm
      obtain ⟨o20, rfl, g19⟩ := hr11
      have g0 := Gr.of0' g0 g19
      have gl14 := Gr.of0' gl14 g19
      obtain ⟨c21, hm⟩ := wp_grd hm
      refine rd_gn (rd_seq (rd_asg (rd_op (rd_var rfl (rd_var rfl (rd_rI (c21) (rd_gn ?_)))))))
      refine rd_nx ?_
      refine rd_if (rd_T (rd_op (rd_var rfl (rd_var rfl (rd_rI0 (rd_kB ?_))))))
      refine iteB (fun e22 => ?_) (fun e22 => ?_)
      · have hm := ifT e22 (wp_iteB hm)
        have h23 := (rfl : rO rI H10 none .non)
        exact rd_ret (rd_c (hm _ _ g0 h23))
      have hm := ifF e22 (wp_iteB hm)
      exact rd_next (hm _ _ ⟨_, rfl, gl14⟩)
    obtain ⟨o25, rfl, g24⟩ := hr6
    have g0 := Gr.of0' g0 g24
    have h26 := (show rO rI H5 (some s4) (.int s4) from ⟨(fun z => V.noConfusion z), rfl⟩)
    exact rd_ret (rd_var rfl (hm _ _ g0 h26))

abbrev s_cofactors : Stmt := topS 10
abbrev n_cofactors : List Str := ["a", "b", "g", "u", "v", "rest", "rest_u", "rest_v", "quotient"]
theorem sc_cofactors : FnScope n_cofactors ["a", "b"] (defScope s_cofactors) := ⟨rfl, rfl, rfl, by decide +kernel, rfl, by decide +kernel, by decide +kernel⟩
def m_cofactors_b1 (s9 : Int × Int × Int × Int × Int × Int) : R Bool :=
  R.ok (!decide (s9.2.2.2.1 = (0 : Int)))
def m_cofactors_b2 (s9 : Int × Int × Int × Int × Int × Int) : R (Int × Int × Int × Int × Int × Int) :=
  grd (CDivN s9.1 s9.2.2.2.1) <| grd (CMul (Int.fdiv s9.1 s9.2.2.2.1) s9.2.2.2.1) <| grd (CMul (Int.fdiv s9.1 s9.2.2.2.1) s9.2.2.2.2.1) <| grd (CMul (Int.fdiv s9.1 s9.2.2.2.1) s9.2.2.2.2.2) <| R.ok (s9.2.2.2.1, s9.2.2.2.2.1, s9.2.2.2.2.2, (s9.1 - ((Int.fdiv s9.1 s9.2.2.2.1) * s9.2.2.2.1)), (s9.2.1 - ((Int.fdiv s9.1 s9.2.2.2.1) * s9.2.2.2.2.1)), (s9.2.2.1 - ((Int.fdiv s9.1 s9.2.2.2.1) * s9.2.2.2.2.2)))
def m_cofactors (a_a : Int) (a_b : Int) : R (Int × Int × Int) :=
  (whileR m_cofactors_b1 m_cofactors_b2 100000 (a_a, (1 : Int), (0 : Int), a_b, (0 : Int), (1 : Int))).bind fun s4 => if (decide (s4.1 < (0 : Int))) = true then (R.ok ((-s4.1), (-s4.2.1), (-s4.2.2.1))) else (R.ok (s4.1, s4.2.1, s4.2.2.1))
def sp_cofactors (K : PySem.W.Frag) : Sp := fun vs H Q _ => ∃ (a_a : Int) (a_b : Int), vs = [(.int a_a), (.int a_b)] ∧ wp (m_cofactors a_a a_b) (fun r => ∀ v H', Gr [] H H' → (rP3 K rI rI rI) H' r v → Q v H') (fun _ => False)
theorem ok_cofactors {P : Program} {w : World} {K : PySem.W.Frag} {mg : Str → Option Value} {base : Heap} {f : Addr} {fd : FuncData} (F : Fun K "cofactors" "cofactors" s_cofactors f fd) : FnOk P w K mg base CX0 1 f fd ["a", "b"] (sp_cofactors K) := by
  refine F.ok sc_cofactors (fun vs H Q E h => ?_) (fun cdv A outer s H0 vs Q E hr h => ?_)
  · obtain ⟨a_a, a_b, rfl, hm⟩ := h
    rfl
  · obtain ⟨a_a, a_b, rfl, hm⟩ := h
    have hm : wp (m_cofactors a_a a_b) _ _ := hm
    unfold m_cofactors at hm
    refine ⟨_, (pss_cons (ps_par3 (i := 2) (j := 3) (l := 4) rfl sc_cofactors.nd rfl rfl rfl (by decide) (by decide) (by decide) rfl rfl rfl (pa_cons (pv 0) (pa_cons pe_int (pa_cons pe_int pa_nil))) (by rfl)) (pss_cons (ps_par3 (i := 5) (j := 6) (l := 7) rfl sc_cofactors.nd rfl rfl rfl (by decide) (by decide) (by decide) rfl rfl rfl (pa_cons (pv 1) (pa_cons pe_int (pa_cons pe_int pa_nil))) (by rfl)) (pss_cons (ps_while PassesOwn.never (pt_cmpR op_neI (pv 5) pe_int (nomark _)) (pss_cons (ps_set (i := 8) sc_cofactors.nd rfl (Or.inl rfl) (pe_op op_fdivN (pv 2) (pv 5))) (pss_cons (ps_par (i := 2) (j := 5) rfl sc_cofactors.nd rfl rfl (by decide) rfl rfl (pa_cons (pv 5) (pa_cons (pe_op op_sub (pv 2) (pe_op op_mul (pv 8) (pv 5))) pa_nil)) (by rfl)) (pss_cons (ps_par (i := 3) (j := 6) rfl sc_cofactors.nd rfl rfl (by decide) rfl rfl (pa_cons (pv 6) (pa_cons (pe_op op_sub (pv 3) (pe_op op_mul (pv 8) (pv 6))) pa_nil)) (by rfl)) (pss_one (ps_par (i := 4) (j := 7) rfl sc_cofactors.nd rfl rfl (by decide) rfl rfl (pa_cons (pv 7) (pa_cons (pe_op op_sub (pv 4) (pe_op op_mul (pv 8) (pv 7))) pa_nil)) (by rfl))))))) (pss_cons (ps_if (pt_cmpR op_lt (pv 2) pe_int (nomark _)) (pss_one (ps_ret (pe_tup (pa_cons (pe_un un_neg (pv 2)) (pa_cons (pe_un un_neg (pv 3)) (pa_cons (pe_un un_neg (pv 4)) pa_nil)))))) pss_nil) (pss_one (ps_ret (pe_tup (pa_cons (pv 2) (pa_cons (pv 3) (pa_cons (pv 4) pa_nil)))))))))), ?_⟩
    have g0 := Gr.refl (A := []) H0
    refine rd_seq (rd_par3 (rd_cons (rd_var rfl (rd_cons (rd_c (rd_cons (rd_c (rd_nil (rd_kp3 ?_)))))))))
    refine rd_nx ?_
    refine rd_seq (rd_par3 (rd_cons (rd_var rfl (rd_cons (rd_c (rd_cons (rd_c (rd_nil (rd_kp3 ?_)))))))))
    refine rd_nx ?_
    refine seq_join (t := tWhile _ _) (wp_bind hm) (fun (s : Int × Int × Int × Int × Int × Int) (σ : L2.St) (H : Hp) => ∃ (o8 : Option V), σ = [some (.int a_a), some (.int a_b), some (.int s.1), some (.int s.2.1), some (.int s.2.2.1), some (.int s.2.2.2.1), some (.int s.2.2.2.2.1), some (.int s.2.2.2.2.2), o8] ∧ Gr [] H0 H) (fun N2 hN3 hm => ?_) (fun s4 σ H5 hr6 hm => ?_)
    · have gl7 := Gr.refl (A := []) H0
      refine whl_R (fun (s : Int × Int × Int × Int × Int × Int) (σ : L2.St) (H : Hp) => ∃ (o8 : Option V), σ = [some (.int a_a), some (.int a_b), some (.int s.1), some (.int s.2.1), some (.int s.2.2.1), some (.int s.2.2.2.1), some (.int s.2.2.2.2.1), some (.int s.2.2.2.2.2), o8] ∧ Gr [] H0 H) (by exact wp_N hm (fun s σ' H' hr hz => hN3 s σ' H' hr hz)) ⟨_, rfl, gl7⟩ (fun s9 σ H10 N12 W13 m14 hW15 hr11 hm => ?_)
      unfold m_cofactors_b1 at hm
      obtain ⟨o19, rfl, g18⟩ := hr11
      have g0 := Gr.of0' g0 g18
      have gl7 := Gr.of0' gl7 g18
      refine rd_T (rd_op (rd_var rfl (rd_c (rd_rI0 (rd_kB ?_)))))
      refine iteB' (fun e20 => ?_) (fun e20 => ?_)
      · exact ifF e20 hm _ _ ⟨_, rfl, gl7⟩
      have hm := ifT e20 hm
      unfold m_cofactors_b2 at hm
      refine ⟨N12, hW15, ?_⟩
      obtain ⟨c21, hm⟩ := wp_grd hm
      refine rd_seq (rd_asg (rd_op (rd_var rfl (rd_var rfl (rd_rI c21 (rd_gn ?_))))))
      refine rd_nx ?_
      obtain ⟨c22, hm⟩ := wp_grd hm
      refine rd_seq (rd_par (rd_cons (rd_var rfl (rd_cons (rd_op (rd_var rfl (rd_op (rd_var rfl (rd_var rfl (rd_rI (c22) (rd_rI0 (rd_nil (rd_kp2 ?_)))))))))))))
      refine rd_nx ?_
      obtain ⟨c23, hm⟩ := wp_grd hm
      refine rd_seq (rd_par (rd_cons (rd_var rfl (rd_cons (rd_op (rd_var rfl (rd_op (rd_var rfl (rd_var rfl (rd_rI (c23) (rd_rI0 (rd_nil (rd_kp2 ?_)))))))))))))
      refine rd_nx ?_
      obtain ⟨c24, hm⟩ := wp_grd hm
      refine rd_par (rd_cons (rd_var rfl (rd_cons (rd_op (rd_var rfl (rd_op (rd_var rfl (rd_var rfl (rd_rI (c24) (rd_rI0 (rd_nil (rd_kp2 ?_))))))))))))
      exact hm _ _ ⟨_, rfl, gl7⟩
    obtain ⟨o26, rfl, g25⟩ := hr6
    have g0 := Gr.of0' g0 g25
    refine rd_seq (rd_if (rd_T (rd_op (rd_var rfl (rd_c (rd_rI0 (rd_kB ?_)))))))
    refine iteB (fun e27 => ?_) (fun e27 => ?_)
    · have hm := ifT e27 (wp_iteB hm)
      refine rd_ret (rd_tup (rd_cons (rd_un (rd_var rfl (rd_rU (rd_cons (rd_un (rd_var rfl (rd_rU (rd_cons (rd_un (rd_var rfl (rd_rU (rd_nil (mk_P3 (K := K) (r := rI) (s := rI) (t := rI) rfl rfl rfl fun v28 H29 g30 h31 => ?_)))))))))))))))
      have g0 := g0.of0' g30
      exact hm _ _ g0 h31
    have hm := ifF e27 (wp_iteB hm)
    refine rd_next (rd_nx ?_)
    refine rd_ret (rd_tup (rd_cons (rd_var rfl (rd_cons (rd_var rfl (rd_cons (rd_var rfl (rd_nil (mk_P3 (K := K) (r := rI) (s := rI) (t := rI) rfl rfl rfl fun v32 H33 g34 h35 => ?_)))))))))
    have g0 := g0.of0' g34
    exact hm _ _ g0 h35

abbrev s_inverse_modulo : Stmt := topS 14
abbrev n_inverse_modulo : List Str := ["a", "m", "g", "u", "_"]
theorem sc_inverse_modulo : FnScope n_inverse_modulo ["a", "m"] (defScope s_inverse_modulo) := ⟨rfl, rfl, rfl, by decide +kernel, rfl, by decide +kernel, by decide +kernel⟩
def m_inverse_modulo (a_a : Int) (a_m : Int) : R Int :=
  (noEr (m_cofactors a_a a_m)).bind fun t1 => if (!decide (t1.1 = (1 : Int))) = true then (R.er .zd) else (grd (0 < a_m) <| R.ok (t1.2.1 % a_m))
def sp_inverse_modulo (K : PySem.W.Frag) (C : Xc) : Sp := fun vs H Q E => ∃ (a_a : Int) (a_m : Int), vs = [(.int a_a), (.int a_m)] ∧ wp (m_inverse_modulo a_a a_m) (fun r => ∀ H', Gr [] H H' → Q (.int r) H') (XEr C [] H E)
theorem ok_inverse_modulo {P : Program} {w : World} {K : PySem.W.Frag} {mg : Str → Option Value} {base : Heap} {f : Addr} {fd : FuncData} {c_fault c_zd c_mal c_refu : Addr} (F : Fun K "inverse_modulo" "inverse_modulo" s_inverse_modulo f fd) (Xk_zd : Xk K mg "ZeroDivisor" c_zd) (c_cofactors : Cal P w K mg base CX0 1 "cofactors" ["a", "b"] (sp_cofactors K)) : FnOk P w K mg base (CX P w) 2 f fd ["a", "m"] (sp_inverse_modulo K (⟨some c_fault, some c_zd, some c_mal, some c_refu, none⟩ : Xc)) := by
  obtain ⟨f_cofactors, fd_cofactors, G_cofactors, g_cofactors, k_cofactors, b_cofactors⟩ := c_cofactors
  refine F.okX sc_inverse_modulo (fun vs H Q E h => ?_) (fun cdv A outer s H0 vs Q E hr h => ?_)
  · obtain ⟨a_a, a_m, rfl, hm⟩ := h
    rfl
  · obtain ⟨a_a, a_m, rfl, hm⟩ := h
    have hm : wp (m_inverse_modulo a_a a_m) _ _ := hm
    unfold m_inverse_modulo at hm
    refine ⟨_, (pss_cons (ps_asg (pe_call G_cofactors (hr.mono (by decide)) (by rfl) g_cofactors k_cofactors b_cofactors .nil pass0 (pa_cons (pv 0) (pa_cons (pv 1) pa_nil))) (pg_tup rfl (pgs_cons (pg_name (i := 2) sc_inverse_modulo.nd rfl (Or.inl rfl)) (pgs_cons (pg_name (i := 3) sc_inverse_modulo.nd rfl (Or.inl rfl)) (pgs_cons (pg_name (i := 4) sc_inverse_modulo.nd rfl (Or.inl rfl)) pgs_nil))))) (pss_cons (ps_if (pt_cmpR op_neI (pv 2) pe_int (nomark _)) (pss_one (ps_raise rfl (takes_of rfl rfl rfl rfl) (pmk_own PySem.F.excBase_ValueError Xk_zd.x Xk_zd.g Xk_zd.k (raises_own Xk_zd.b Xk_zd.t) (by rfl)))) pss_nil) (pss_one (ps_ret (pe_op op_mod (pv 3) (pv 1)))))), ?_⟩
    have g0 := Gr.refl (A := []) H0
    refine rd_seq (rd_asg (rd_call (rd_cons (rd_var rfl (rd_cons (rd_var rfl (rd_nil ⟨_, _, rfl, wp_imp (wp_bindN hm) (fun t1 hm v4 H2 g3 h5 => ?_) (fun _ e => e)⟩)))))))
    have g0 := g0.of0' g3
    obtain ⟨a6, x7, x8, x9, ea14, h10, h11, h12, h13⟩ := id h5
    obtain rfl := h11
    obtain rfl := h12
    obtain rfl := h13
    refine rd_gtE ea14 h10 rfl (rd_gc (rd_gn (rd_gc (rd_gn (rd_gc (rd_gn (rd_g0 ?_)))))))
    refine rd_nx ?_
    refine rd_seq (rd_if (rd_T (rd_op (rd_var rfl (rd_c (rd_rI0 (rd_kB ?_)))))))
    refine iteB (fun e15 => ?_) (fun e15 => ?_)
    · have hm := ifT e15 (wp_iteB hm)
      exact xe0_at hm rfl g0
    have hm := ifF e15 (wp_iteB hm)
    refine rd_next (rd_nx ?_)
    obtain ⟨c16, hm⟩ := wp_grd hm
    exact rd_ret (rd_op (rd_var rfl (rd_var rfl (rd_rI c16 (hm _ g0)))))

abbrev s_without_end : Stmt := topS 16
abbrev n_without_end : List Str := ["items", "zero", "length"]
theorem sc_without_end : FnScope n_without_end ["items", "zero"] (defScope s_without_end) := ⟨rfl, rfl, rfl, by decide +kernel, rfl, by decide +kernel, by decide +kernel⟩
def m_without_end_b1 (a_items : (List Int)) (a_zero : Int) (s8 : Int) : R Bool :=
  (andR (R.ok (decide ((0 : Int) < s8))) ((getL a_items (s8 - (1 : Int))).bind fun t22 => R.ok (decide (t22 = a_zero)))).bind fun t25 => R.ok t25
def m_without_end_b2 (s8 : Int) : R (Int) :=
  R.ok (s8 - (1 : Int))
def m_without_end (a_items : (List Int)) (a_zero : Int) : R (List Int) :=
  (whileR (m_without_end_b1 a_items a_zero) m_without_end_b2 100000 ((a_items).length : Int)).bind fun s4 => R.ok (cutT a_items none (some s4))
def sp_without_end (K : PySem.W.Frag) : Sp := fun vs H Q _ => ∃ (a_items : (List Int)) (p_items : Addr) (a_zero : Int), vs = [.ref p_items, (.int a_zero)] ∧ Ls rI H p_items a_items ∧ wp (m_without_end a_items a_zero) (fun r => ∀ v H', Gr [] H H' → (rT K rI) H' r v → Q v H') (fun _ => False)
theorem ok_without_end {P : Program} {w : World} {K : PySem.W.Frag} {mg : Str → Option Value} {base : Heap} {f : Addr} {fd : FuncData} (F : Fun K "without_end" "without_end" s_without_end f fd) (z_len : mg "len" = none) (z_tuple : mg "tuple" = none) : FnOk P w K mg base CX0 1 f fd ["items", "zero"] (sp_without_end K) := by
  refine F.ok sc_without_end (fun vs H Q E h => ?_) (fun cdv A outer s H0 vs Q E hr h => ?_)
  · obtain ⟨a_items, p_items, a_zero, rfl, h_items, hm⟩ := h
    rfl
  · obtain ⟨a_items, p_items, a_zero, rfl, h_items, hm⟩ := h
    have hm : wp (m_without_end a_items a_zero) _ _ := hm
    unfold m_without_end at hm
    refine ⟨_, (pss_cons (ps_set (i := 2) sc_without_end.nd rfl (Or.inl rfl) (pe_callB (lenK (K := K) rfl) (by rfl) z_len PySem.boot_len (pa_cons (pv 0) pa_nil))) (pss_cons (ps_while PassesOwn.never (PW.pt (pw_and (pt_cmpR op_gt (pv 2) pe_int (nomark _)) (pw_and1 (pt_cmpR op_eqI (pe_ix (ix_listK (K := K) rfl) (pv 0) (pe_op op_sub (pv 2) pe_int) (fun _ _ => rfl)) (pv 1) (nomark _))))) (pss_one (ps_set (i := 2) sc_without_end.nd rfl (Or.inl rfl) (pe_op op_sub (pv 2) pe_int)))) (pss_one (ps_ret (pe_callTy (tupleK (K := K) rfl) (by rfl) z_tuple (by decide +kernel) (pa_cons (pe_slice (sl_listK (K := K) rfl) (pv 0) po_none (po_some (pv 2))) pa_nil)))))), ?_⟩
    have g0 := Gr.refl (A := []) H0
    refine rd_seq (rd_asg (rd_cb (rd_cons (rd_var rfl (rd_nil (len_L (Ls.q h_items) (rd_gn ?_)))))))
    refine rd_nx ?_
    refine seq_join (t := tWhile _ _) (wp_bind hm) (fun (s : Int) (σ : L2.St) (H : Hp) => σ = [some (.ref p_items), some (.int a_zero), some (.int s)] ∧ Gr [] H0 H) (fun N2 hN3 hm => ?_) (fun s4 σ H5 hr6 hm => ?_)
    · have gl7 := Gr.refl (A := []) H0
      refine whl_R (fun (s : Int) (σ : L2.St) (H : Hp) => σ = [some (.ref p_items), some (.int a_zero), some (.int s)] ∧ Gr [] H0 H) (by exact wp_N hm (fun s σ' H' hr hz => hN3 s σ' H' hr hz)) ⟨rfl, gl7⟩ (fun s8 σ H9 N11 W12 m13 hW14 hr10 hm => ?_)
      unfold m_without_end_b1 at hm
      obtain ⟨rfl, g17⟩ := hr10
      have h_items := Ls.gA g17 nin0 h_items
      have g0 := Gr.of0' g0 g17
      have gl7 := Gr.of0' gl7 g17
      refine (ev_and (fun Q hm => by
          have gb18 := Gr.refl (A := []) H9
          exact rd_T (rd_op (rd_var rfl (rd_c (rd_rI0 (rd_kB (hm _ gb18))))))) (fun H19 g20 Q hm => by
          have h_items := Ls.g0 g20 h_items
          have g0 := g0.of0' g20
          have gl7 := gl7.of0' g20
          have gb21 := Gr.refl (A := []) H19
          refine rd_T (rd_op (rd_op (rd_var rfl (rd_op (rd_var rfl (rd_c (rd_rI0 (ix_L (Ls.q h_items) (wp_bind hm) fun t22 v23 h24 hm => ?_))))))))
          obtain rfl := h24
          exact rd_var rfl (rd_rI0 (rd_kB (hm _ gb21))))) _ (wp_imp (wp_bind hm) (fun t25 hm H26 g27 => ?_) (fun _ e => e))
      have h_items := Ls.g0 g27 h_items
      have g0 := g0.of0' g27
      have gl7 := gl7.of0' g27
      refine iteB' (fun e28 => ?_) (fun e28 => ?_)
      · exact ifF e28 hm _ _ ⟨rfl, gl7⟩
      have hm := ifT e28 hm
      unfold m_without_end_b2 at hm
      refine ⟨N11, hW14, ?_⟩
      refine rd_asg (rd_op (rd_var rfl (rd_c (rd_rI0 (rd_gn ?_)))))
      exact hm _ _ ⟨rfl, gl7⟩
    obtain ⟨rfl, g29⟩ := hr6
    have h_items := Ls.gA g29 nin0 h_items
    have g0 := Gr.of0' g0 g29
    refine rd_ret (rd_cb (rd_cons (rd_sl (rd_var rfl (rd_np (rd_part (rd_var rfl (rd_kI (cut_L (K := K) (Ls.q h_items) fun p30 H31 n32 g33 h34 => ?_)))))))))
    have ne35 : p_items ≠ p30 := Ls.ne h_items n32
    have nw36 := Gr.free g0 n32
    have h_items := Ls.g0 g33 h_items
    have g0 := g0.of0' g33
    refine rd_nil (tup_of_L (K := K) (Ls.q h34) fun v37 H38 g39 h40 => ?_)
    have h_items := Ls.g0 g39 h_items
    have g0 := g0.of0' g39
    exact hm _ _ g0 h40

abbrev s_trimmed : Stmt := topS 18
abbrev n_trimmed : List Str := ["row", "p", "item"]
theorem sc_trimmed : FnScope n_trimmed ["row", "p"] (defScope s_trimmed) := ⟨rfl, rfl, rfl, by decide +kernel, rfl, by decide +kernel, by decide +kernel⟩
def m_trimmed_b1 (a_p : Int) (s11 : List Int) (x12 : Int) : R (List Int) :=
  grd (0 < a_p) <| grd (lenLt s11) <| R.ok (s11 ++ [(x12 % a_p)])
def m_trimmed (a_row : (List Int)) (a_p : Int) : R (List Int) :=
  (foldR (m_trimmed_b1 a_p) ([]) a_row).bind fun s18 => (m_without_end s18 (0 : Int)).bind fun t31 => R.ok t31
def sp_trimmed (K : PySem.W.Frag) : Sp := fun vs H Q _ => ∃ (a_row : (List Int)) (p_row : Addr) (a_p : Int), vs = [.ref p_row, (.int a_p)] ∧ Ls rI H p_row a_row ∧ wp (m_trimmed a_row a_p) (fun r => ∀ v H', Gr [] H H' → (rT K rI) H' r v → Q v H') (fun _ => False)
theorem ok_trimmed {P : Program} {w : World} {K : PySem.W.Frag} {mg : Str → Option Value} {base : Heap} {f : Addr} {fd : FuncData} (F : Fun K "trimmed" "trimmed" s_trimmed f fd) (c_without_end : Cal P w K mg base CX0 1 "without_end" ["items", "zero"] (sp_without_end K)) : FnOk P w K mg base CX0 2 f fd ["row", "p"] (sp_trimmed K) := by
  obtain ⟨f_without_end, fd_without_end, G_without_end, g_without_end, k_without_end, b_without_end⟩ := c_without_end
  refine F.ok sc_trimmed (fun vs H Q E h => ?_) (fun cdv A outer s H0 vs Q E hr h => ?_)
  · obtain ⟨a_row, p_row, a_p, rfl, h_row, hm⟩ := h
    rfl
  · obtain ⟨a_row, p_row, a_p, rfl, h_row, hm⟩ := h
    have hm : wp (m_trimmed a_row a_p) _ _ := hm
    unfold m_trimmed at hm
    refine ⟨_, (pss_one (ps_ret (pe_call G_without_end (hr.mono (by decide)) (by rfl) g_without_end k_without_end b_without_end .nil pass0 (pa_cons (pe_lc (own := [("item", 2)]) (g := gName 2) (tt := tYes) rfl sc_trimmed.nd (pi_listK (K := K) (pv 0) rfl) (blkOk_by (own := [("item", 2)]) (N := n_trimmed) (sc := defScope s_trimmed) (by decide +kernel)) (fun _ _ _ _ _ => pg_name (i := 2) sc_trimmed.nd rfl (Or.inl rfl)) (fun _ _ _ _ _ => pts_nil) (fun _ _ _ _ _ => (pe_op op_mod (pv 2) (pv 1)))) (pa_cons pe_int pa_nil))))), ?_⟩
    have g0 := Gr.refl (A := []) H0
    obtain ⟨vs1, hl2, hp3⟩ := id (Ls.q h_row)
    refine rd_ret (rd_call (rd_cons (rd_lc (rd_il (rd_var rfl ⟨_, rfl, ⟨_, hl2⟩, fun p4 n5 => ?_⟩)))))
    have ne6 : p_row ≠ p4 := Ls.ne h_row n5
    have nw7 := Gr.free g0 n5
    refine lc_lst (r := rI) (H1 := H0) (fun (s : List Int) (H : Hp) => Gr [] H0 H ∧ Ls rI H p4 s) hp3 (wp_bind hm) ⟨Gr.new n5, ⟨[], upd_same, .nil⟩⟩ (fun _ _ hr => by obtain ⟨g, _⟩ := hr; exact g.lst nin0 hl2) (fun x12 v13 s11 H15 N16 hx14 hr17 hm => ?_) (fun s18 H19 hr20 hm => ?_)
    · unfold m_trimmed_b1 at hm
      obtain ⟨g21, h22⟩ := hr17
      have h_row := Ls.gA g21 nin0 h_row
      have g0 := Gr.of0' g0 g21
      have gl23 := g21
      obtain rfl := hx14
      obtain ⟨c24, hm⟩ := wp_grd hm
      obtain ⟨c25, hm⟩ := wp_grd hm
      refine rd_gn ⟨rfl, rd_yes (iteT (rd_op (rd_var rfl (rd_var rfl (rd_rI c24 (lc_add h22 rfl c25 fun H26 g27 h28 => ?_))))))⟩
      have h_row := Ls.g1 g27 ne6 h_row
      have g0 := Gr.loc g0 nw7 g27
      have gl23 := Gr.loc gl23 n5 g27
      exact hm _ ⟨gl23, h28⟩
    obtain ⟨g29, h30⟩ := hr20
    have h_row := Ls.gA g29 nin0 h_row
    have g0 := Gr.of0' g0 g29
    refine rd_cons (rd_c (rd_nil ⟨_, _, _, rfl, h30, wp_imp (wp_bind hm) (fun t31 hm v34 H32 g33 h35 => ?_) (fun _ e => e)⟩))
    have h_row := Ls.g0 g33 h_row
    have g0 := g0.of0' g33
    exact hm _ _ g0 h35

abbrev s_divide_rows : Stmt := topS 22
abbrev n_divide_rows : List Str := ["a", "b", "p", "factor", "rest", "places", "quotient", "at", "k", "item"]
theorem sc_divide_rows : FnScope n_divide_rows ["a", "b", "p"] (defScope s_divide_rows) := ⟨rfl, rfl, rfl, by decide +kernel, rfl, by decide +kernel, by decide +kernel⟩
def m_divide_rows_b1 (a_p : Int) (x45 : Int) (t62 : (List Int)) (s75 : (List Int)) (x85 : (Int × Int)) : R ((List Int)) :=
  (getL s75 (x45 + x85.1)).bind fun t102 => (getL t62 x45).bind fun t105 => grd (CMul t105 x85.2) <| grd (0 < a_p) <| (setL s75 (x45 + x85.1) ((t102 - (t105 * x85.2)) % a_p)).bind fun t110 => R.ok t110
def m_divide_rows_b2 (a_b : (List Int)) (a_p : Int) (t5 : Int) (s39 : (List Int) × (List Int)) (x45 : Int) : R ((List Int) × (List Int)) :=
  (getL s39.1 ((x45 + ((a_b).length : Int)) - (1 : Int))).bind fun t57 => grd (CMul t57 t5) <| grd (0 < a_p) <| (setL s39.2 x45 ((t57 * t5) % a_p)).bind fun t62 => (foldR (m_divide_rows_b1 a_p x45 t62) s39.1 (enumF a_b)).bind fun s69 => R.ok (s69, t62)
def m_divide_rows (a_a : (List Int)) (a_b : (List Int)) (a_p : Int) : R ((List Int) × (List Int)) :=
  if (!(!(a_b).isEmpty)) = true then (R.er .zd) else ((getL a_b (-(1 : Int))).bind fun t2 => (m_inverse_modulo t2 a_p).bind fun t5 => grd (repOk ([(0 : Int)]) ((((a_a).length : Int) - ((a_b).length : Int)) + (1 : Int))) <| (grd (rgOk ((((a_a).length : Int) - ((a_b).length : Int)) + (1 : Int))) <| foldR (m_divide_rows_b2 a_b a_p t5) (a_a, (repL ([(0 : Int)]) ((((a_a).length : Int) - ((a_b).length : Int)) + (1 : Int)))) (rngC (((((((a_a).length : Int) - ((a_b).length : Int)) + (1 : Int))).toNat : Int) - 1) (-1) (((((a_a).length : Int) - ((a_b).length : Int)) + (1 : Int))).toNat)).bind fun s32 => (noEr (m_trimmed s32.2 a_p)).bind fun t124 => (noEr (m_trimmed s32.1 a_p)).bind fun t129 => R.ok (t124, t129))
def sp_divide_rows (K : PySem.W.Frag) (C : Xc) : Sp := fun vs H Q E => ∃ (a_a : (List Int)) (v_a : V) (a_b : (List Int)) (v_b : V) (a_p : Int), vs = [v_a, v_b, (.int a_p)] ∧ (rT K rI) H a_a v_a ∧ (rT K rI) H a_b v_b ∧ wp (m_divide_rows a_a a_b a_p) (fun r => ∀ v H', Gr [] H H' → (rP K (rT K rI) (rT K rI)) H' r v → Q v H') (XEr C [] H E)
theorem ok_divide_rows {P : Program} {w : World} {K : PySem.W.Frag} {mg : Str → Option Value} {base : Heap} {f : Addr} {fd : FuncData} {c_fault c_zd c_mal c_refu : Addr} (F : Fun K "divide_rows" "divide_rows" s_divide_rows f fd) (z_list : mg "list" = none) (z_len : mg "len" = none) (z_reversed : mg "reversed" = none) (z_range : mg "range" = none) (z_enumerate : mg "enumerate" = none) (Xk_zd : Xk K mg "ZeroDivisor" c_zd) (c_inverse_modulo : Cal P w K mg base (CX P w) 2 "inverse_modulo" ["a", "m"] (sp_inverse_modulo K (⟨some c_fault, some c_zd, some c_mal, some c_refu, none⟩ : Xc))) (c_trimmed : Cal P w K mg base CX0 2 "trimmed" ["row", "p"] (sp_trimmed K)) : FnOk P w K mg base (CX P w) 3 f fd ["a", "b", "p"] (sp_divide_rows K (⟨some c_fault, some c_zd, some c_mal, some c_refu, none⟩ : Xc)) := by
  obtain ⟨f_inverse_modulo, fd_inverse_modulo, G_inverse_modulo, g_inverse_modulo, k_inverse_modulo, b_inverse_modulo⟩ := c_inverse_modulo
  obtain ⟨f_trimmed, fd_trimmed, G_trimmed, g_trimmed, k_trimmed, b_trimmed⟩ := c_trimmed
  refine F.okX sc_divide_rows (fun vs H Q E h => ?_) (fun cdv A outer s H0 vs Q E hr h => ?_)
  · obtain ⟨a_a, v_a, a_b, v_b, a_p, rfl, h_a, h_b, hm⟩ := h
    rfl
  · obtain ⟨a_a, v_a, a_b, v_b, a_p, rfl, h_a, h_b, hm⟩ := h
    have hm : wp (m_divide_rows a_a a_b a_p) _ _ := hm
    unfold m_divide_rows at hm
    refine ⟨_, (pss_cons (ps_if (pt_not (pt_tru (K := K) (pv 1) rfl)) (pss_one (ps_raise rfl (takes_of rfl rfl rfl rfl) (pmk_own PySem.F.excBase_ValueError Xk_zd.x Xk_zd.g Xk_zd.k (raises_own Xk_zd.b Xk_zd.t) (by rfl)))) pss_nil) (pss_cons (ps_set (i := 3) sc_divide_rows.nd rfl (Or.inl rfl) (pe_callS G_inverse_modulo (hr.mono (by decide)) (by rfl) g_inverse_modulo k_inverse_modulo b_inverse_modulo (fun σ => passAt (takes_of rfl rfl rfl rfl) σ) (pa_cons (pe_ix (ix_tupK (K := K) rfl) (pv 1) (pe_un un_neg pe_int) (fun _ _ => rfl)) (pa_cons (pv 2) pa_nil)))) (pss_cons (ps_set (i := 4) sc_divide_rows.nd rfl (Or.inl rfl) (pe_callTy (listK (K := K) rfl) (by rfl) z_list (by decide +kernel) (pa_cons (pv 0) pa_nil))) (pss_cons (ps_set (i := 5) sc_divide_rows.nd rfl (Or.inl rfl) (pe_op op_add (pe_op op_sub (pe_callB (lenK (K := K) rfl) (by rfl) z_len PySem.boot_len (pa_cons (pv 0) pa_nil)) (pe_callB (lenK (K := K) rfl) (by rfl) z_len PySem.boot_len (pa_cons (pv 1) pa_nil))) pe_int)) (pss_cons (ps_set (i := 6) sc_divide_rows.nd rfl (Or.inl rfl) (pe_op op_rep (pe_lst (pa_cons pe_int pa_nil)) (pv 5))) (pss_cons (ps_for PassesOwn.leaving rfl (pi_revR (by rfl) z_reversed (prg_1 (by rfl) z_range (pv 5))) (pg_name (i := 7) sc_divide_rows.nd rfl (Or.inl rfl)) (pss_cons (ps_asg (pe_op op_mod (pe_op op_mul (pe_ix (ix_listK (K := K) rfl) (pv 4) (pe_op op_sub (pe_op op_add (pv 7) (pe_callB (lenK (K := K) rfl) (by rfl) z_len PySem.boot_len (pa_cons (pv 1) pa_nil))) pe_int) (fun _ _ => rfl)) (pv 3)) (pv 2)) (pg_sub (pv 6) (pv 7) set_list)) (pss_one (ps_for PassesOwn.leaving rfl (pi_enumT (K := K) (by rfl) z_enumerate (pa_cons (pv 1) pa_nil) rfl) (pg_tup rfl (pgs_cons (pg_name (i := 8) sc_divide_rows.nd rfl (Or.inl rfl)) (pgs_cons (pg_name (i := 9) sc_divide_rows.nd rfl (Or.inl rfl)) pgs_nil))) (pss_one (ps_asg (pe_op op_mod (pe_op op_sub (pe_ix (ix_listK (K := K) rfl) (pv 4) (pe_op op_add (pv 7) (pv 8)) (fun _ _ => rfl)) (pe_op op_mul (pe_ix (ix_listK (K := K) rfl) (pv 6) (pv 7) (fun _ _ => rfl)) (pv 9))) (pv 2)) (pg_sub (pv 4) (pe_op op_add (pv 7) (pv 8)) set_list))))))) (pss_one (ps_ret (pe_tup (pa_cons (pe_call G_trimmed (hr.mono (by decide)) (by rfl) g_trimmed k_trimmed b_trimmed .nil pass0 (pa_cons (pv 6) (pa_cons (pv 2) pa_nil))) (pa_cons (pe_call G_trimmed (hr.mono (by decide)) (by rfl) g_trimmed k_trimmed b_trimmed .nil pass0 (pa_cons (pv 4) (pa_cons (pv 2) pa_nil))) pa_nil))))))))))), ?_⟩
    have g0 := Gr.refl (A := []) H0
    refine rd_seq (rd_if (rd_not (rd_Tru (rd_var rfl (tru_T h_b ?_)))))
    refine iteB (fun e1 => ?_) (fun e1 => ?_)
    · have hm := ifT e1 (wp_iteB hm)
      exact xe0_at hm rfl g0
    have hm := ifF e1 (wp_iteB hm)
    refine rd_next (rd_nx ?_)
    refine rd_seq (rd_asg (rd_callS (rd_cons (rd_op (rd_var rfl (rd_un (rd_c (rd_rU (ix_T h_b (wp_bind hm) fun t2 v3 h4 hm => ?_)))))))))
    obtain rfl := h4
    refine rd_cons (rd_var rfl (rd_nil ⟨_, _, rfl, wp_imp (wp_bind hm) (fun t5 hm H6 g7 => ?_) (fun _ e => XEr.sub g0 e)⟩))
    have h_a := Imm.mono g7 h_a
    have h_b := Imm.mono g7 h_b
    have g0 := g0.of0' g7
    refine rd_gn ?_
    refine rd_nx ?_
    refine rd_seq (rd_asg (rd_cb (rd_cons (rd_var rfl (rd_nil (lst_of_T h_a fun p8 H9 n10 g11 h12 => ?_))))))
    have nw13 := Gr.free g0 n10
    have h_a := Imm.mono g11 h_a
    have h_b := Imm.mono g11 h_b
    have g0 := g0.of0' g11
    refine rd_gn ?_
    refine rd_nx ?_
    refine rd_seq (rd_asg (rd_op (rd_op (rd_cb (rd_cons (rd_var rfl (rd_nil (len_T h_a (rd_cb (rd_cons (rd_var rfl (rd_nil (len_T h_b (rd_rI0 (rd_c (rd_rI0 (rd_gn ?_)))))))))))))))))
    refine rd_nx ?_
    refine rd_seq (rd_asg (rd_op (rd_lst (rd_cons (rd_c (rd_nil (mk_L (r := rI) (xs := [(0 : Int)]) (.cons rfl .nil) (by show 1 ≤ sizeLine; decide) fun p14 H15 n16 g17 h18 => ?_)))))))
    have ne19 : p8 ≠ p14 := Ls.ne h12 n16
    have nw20 := Gr.free g0 n16
    have h_b := Imm.mono g17 h_b
    have h12 := Ls.g0 g17 h12
    have g0 := g0.of0' g17
    obtain ⟨c21, hm⟩ := wp_grd hm
    refine rd_var rfl (rep_L h18 c21 fun p22 H23 n24 g25 h26 => ?_)
    have ne27 : p8 ≠ p22 := Ls.ne h12 n24
    have nw28 := Gr.free g0 n24
    have h_b := Imm.mono g25 h_b
    have h12 := Ls.g0 g25 h12
    have g0 := g0.of0' g25
    refine rd_gn ?_
    refine rd_nx ?_
    refine seq_join (t := tFor _ _ _) (wp_bind hm) (fun (s : (List Int) × (List Int)) (σ : L2.St) (H : Hp) => ∃ (o36 : Option V) (o37 : Option V) (o38 : Option V), σ = [some v_a, some v_b, some (.int a_p), some (.int t5), some (.ref p8), some (.int ((((a_a).length : Int) - ((a_b).length : Int)) + (1 : Int))), some (.ref p22), o36, o37, o38] ∧ Gr [p8, p22] H23 H ∧ Ls rI H p8 s.1 ∧ Ls rI H p22 s.2) (fun N30 hN31 hm => ?_) (fun s32 σ H33 hr34 hm => ?_)
    · have gl35 := Gr.refl (A := [p8, p22]) H23
      obtain ⟨c43, hm⟩ := wp_grd hm
      have gl44 := Gr.refl (A := [p8, p22]) H23
      refine rd_for (rd_irev (rd_var rfl (rd_rev c43 (for_R (r := rI) (H0 := H23) wk_rngC (fun (s : (List Int) × (List Int)) (σ : L2.St) (H : Hp) => ∃ (o36 : Option V) (o37 : Option V) (o38 : Option V), σ = [some v_a, some v_b, some (.int a_p), some (.int t5), some (.ref p8), some (.int ((((a_a).length : Int) - ((a_b).length : Int)) + (1 : Int))), some (.ref p22), o36, o37, o38] ∧ Gr [p8, p22] H23 H ∧ Ls rI H p8 s.1 ∧ Ls rI H p22 s.2) (by exact wp_N hm (fun s σ' H' hr hz => hN31 s σ' H' hr hz)) ⟨_, _, _, rfl, gl44, h12, h26⟩ (fun _ _ _ hr => by obtain ⟨_, _, _, _, g, _, _⟩ := hr; exact ⟨trivial, _, g⟩) (fun x45 v46 s39 σ H40 H48 N42 hr41 hg49 hx47 hm => ?_)))))
      unfold m_divide_rows_b2 at hm
      obtain ⟨o54, o55, o56, rfl, g51, h52, h53⟩ := hr41
      have h_b := Imm.mono g51 h_b
      have g0 := Gr.many g0 (all1 ((.inr nw13)) (all1 ((.inr nw28)) all0)) g51
      have gl44 := Gr.many gl44 (all1 ((.inl (by simp))) (all1 ((.inl (by simp))) all0)) g51
      have h_b := Imm.mono hg49 h_b
      have h52 := Ls.g0 hg49 h52
      have h53 := Ls.g0 hg49 h53
      have g0 := g0.of0' hg49
      have gl44 := gl44.of0' hg49
      obtain rfl := hx47
      refine rd_gn (rd_seq (rd_asg (rd_op (rd_op (rd_op (rd_var rfl (rd_op (rd_op (rd_var rfl (rd_cb (rd_cons (rd_var rfl (rd_nil (len_T h_b (rd_rI0 (rd_c (rd_rI0 (ix_L (Ls.q h52) (wp_bind hm) fun t57 v58 h59 hm => ?_))))))))))))))))))
      obtain rfl := h59
      obtain ⟨c60, hm⟩ := wp_grd hm
      obtain ⟨c61, hm⟩ := wp_grd hm
      refine rd_var rfl (rd_rI (c60) (rd_var rfl (rd_rI c61 (rd_gs (rd_var rfl (rd_var rfl (rd_set h53 rfl (wp_bind hm) fun t62 H63 g64 h65 hm => ?_)))))))
      have h_b := Imm.mono g64 h_b
      have h52 := Ls.g1 g64 ne27 h52
      have g0 := Gr.loc g0 nw28 g64
      have gl44 := Gr.at1 gl44 (by simp) g64
      refine rd_nx ?_
      refine nx_join (t := tFor _ _ _) (wp_bind hm) (fun (s : (List Int)) (σ : L2.St) (H : Hp) => ∃ (o73 : Option V) (o74 : Option V), σ = [some v_a, some v_b, some (.int a_p), some (.int t5), some (.ref p8), some (.int ((((a_a).length : Int) - ((a_b).length : Int)) + (1 : Int))), some (.ref p22), some (.int x45), o73, o74] ∧ Gr [p8] H63 H ∧ Ls rI H p8 s) (fun N67 hN68 hm => ?_) (fun s69 σ H70 hr71 hm => ?_)
      · have gl72 := Gr.refl (A := [p8]) H63
        obtain ⟨a79, ea83, vs80, hl81, hp82⟩ := id h_b
        have gl84 := Gr.refl (A := [p8]) H63
        refine rd_for (rd_ienumT (rd_cons (rd_var rfl (rd_nil (enum_t ea83 hl81 (for_R (r := (rP K rI rI)) (H0 := H63) (wk_enumT hp82) (fun (s : (List Int)) (σ : L2.St) (H : Hp) => ∃ (o73 : Option V) (o74 : Option V), σ = [some v_a, some v_b, some (.int a_p), some (.int t5), some (.ref p8), some (.int ((((a_a).length : Int) - ((a_b).length : Int)) + (1 : Int))), some (.ref p22), some (.int x45), o73, o74] ∧ Gr [p8] H63 H ∧ Ls rI H p8 s) (by exact wp_N hm (fun s σ' H' hr hz => hN68 s σ' H' hr hz)) ⟨_, _, rfl, gl84, h52⟩ (fun _ _ _ hr => by obtain ⟨_, _, _, g, _⟩ := hr; exact ⟨g.tup hl81, _, g⟩) (fun x85 v86 s75 σ H76 H88 N78 hr77 hg89 hx87 hm => ?_)))))))
        unfold m_divide_rows_b1 at hm
        obtain ⟨o93, o94, rfl, g91, h92⟩ := hr77
        have h_b := Imm.mono g91 h_b
        have h65 := Ls.gA g91 (nin1 (Ne.symm ne27) nin0) h65
        have g0 := Gr.many g0 (all1 ((.inr nw13)) all0) g91
        have gl44 := Gr.many gl44 (all1 ((.inl (by simp))) all0) g91
        have gl84 := Gr.many gl84 (all1 ((.inl (by simp))) all0) g91
        have h_b := Imm.mono hg89 h_b
        have h65 := Ls.g0 hg89 h65
        have h92 := Ls.g0 hg89 h92
        have g0 := g0.of0' hg89
        have gl44 := gl44.of0' hg89
        have gl84 := gl84.of0' hg89
        obtain ⟨a95, x96, x97, ea101, h98, h99, h100⟩ := id hx87
        obtain rfl := h99
        obtain rfl := h100
        refine rd_gtE ea101 h98 rfl (rd_gc (rd_gn (rd_gc (rd_gn (rd_g0 ?_)))))
        refine rd_asg (rd_op (rd_op (rd_op (rd_var rfl (rd_op (rd_var rfl (rd_var rfl (rd_rI0 (ix_L (Ls.q h92) (wp_bind hm) fun t102 v103 h104 hm => ?_)))))))))
        obtain rfl := h104
        refine rd_op (rd_op (rd_var rfl (rd_var rfl (ix_L (Ls.q h65) (wp_bind hm) fun t105 v106 h107 hm => ?_))))
        obtain rfl := h107
        obtain ⟨c108, hm⟩ := wp_grd hm
        obtain ⟨c109, hm⟩ := wp_grd hm
        refine rd_var rfl (rd_rI (c108) (rd_rI0 (rd_var rfl (rd_rI c109 (rd_gs (rd_var rfl (rd_op (rd_var rfl (rd_var rfl (rd_rI0 (rd_set h92 rfl (wp_bind hm) fun t110 H111 g112 h113 hm => ?_)))))))))))
        have h_b := Imm.mono g112 h_b
        have h65 := Ls.g1 g112 (Ne.symm ne27) h65
        have g0 := Gr.loc g0 nw13 g112
        have gl44 := Gr.at1 gl44 (by simp) g112
        have gl84 := Gr.at1 gl84 (by simp) g112
        exact hm _ _ ⟨_, _, rfl, gl84, h113⟩
      obtain ⟨o116, o117, rfl, g114, h115⟩ := hr71
      have h_b := Imm.mono g114 h_b
      have h65 := Ls.gA g114 (nin1 (Ne.symm ne27) nin0) h65
      have g0 := Gr.many g0 (all1 ((.inr nw13)) all0) g114
      have gl44 := Gr.many gl44 (all1 ((.inl (by simp))) all0) g114
      exact hm _ _ ⟨_, _, _, rfl, gl44, h115, h65⟩
    obtain ⟨o121, o122, o123, rfl, g118, h119, h120⟩ := hr34
    have h_b := Imm.mono g118 h_b
    have g0 := Gr.many g0 (all1 ((.inr nw13)) (all1 ((.inr nw28)) all0)) g118
    refine rd_ret (rd_tup (rd_cons (rd_call (rd_cons (rd_var rfl (rd_cons (rd_var rfl (rd_nil ⟨_, _, _, rfl, h120, wp_imp (wp_bindN hm) (fun t124 hm v127 H125 g126 h128 => ?_) (fun _ e => e)⟩))))))))
    have h119 := Ls.g0 g126 h119
    have h120 := Ls.g0 g126 h120
    have g0 := g0.of0' g126
    refine rd_cons (rd_call (rd_cons (rd_var rfl (rd_cons (rd_var rfl (rd_nil ⟨_, _, _, rfl, h119, wp_imp (wp_bindN hm) (fun t129 hm v132 H130 g131 h133 => ?_) (fun _ e => e)⟩))))))
    have h119 := Ls.g0 g131 h119
    have h120 := Ls.g0 g131 h120
    have h128 := Imm.mono g131 h128
    have g0 := g0.of0' g131
    refine rd_nil (mk_P (K := K) (r := (rT K rI)) (s := (rT K rI)) h128 h133 fun v134 H135 g136 h137 => ?_)
    have h119 := Ls.g0 g136 h119
    have h120 := Ls.g0 g136 h120
    have g0 := g0.of0' g136
    exact hm _ _ g0 h137

abbrev s_multiply_rows : Stmt := topS 21
abbrev n_multiply_rows : List Str := ["a", "b", "p", "products", "i", "x", "j", "y"]
theorem sc_multiply_rows : FnScope n_multiply_rows ["a", "b", "p"] (defScope s_multiply_rows) := ⟨rfl, rfl, rfl, by decide +kernel, rfl, by decide +kernel, by decide +kernel⟩
def m_multiply_rows_b1 (x35 : (Int × Int)) (s63 : (List Int)) (x73 : (Int × Int)) : R ((List Int)) :=
  (getL s63 (x35.1 + x73.1)).bind fun t90 => grd (CMul x35.2 x73.2) <| (setL s63 (x35.1 + x73.1) (t90 + (x35.2 * x73.2))).bind fun t94 => R.ok t94
def m_multiply_rows_b2 (a_b : (List Int)) (s25 : (List Int)) (x35 : (Int × Int)) : R ((List Int)) :=
  (foldR (m_multiply_rows_b1 x35) s25 (enumF a_b)).bind fun s57 => R.ok s57
def m_multiply_rows (a_a : (List Int)) (a_b : (List Int)) (a_p : Int) : R (List Int) :=
  grd (repOk ([(0 : Int)]) (((a_a).length : Int) + ((a_b).length : Int))) <| (foldR (m_multiply_rows_b2 a_b) (repL ([(0 : Int)]) (((a_a).length : Int) + ((a_b).length : Int))) (enumF a_a)).bind fun s17 => (m_trimmed s17 a_p).bind fun t108 => R.ok t108
def sp_multiply_rows (K : PySem.W.Frag) : Sp := fun vs H Q _ => ∃ (a_a : (List Int)) (v_a : V) (a_b : (List Int)) (v_b : V) (a_p : Int), vs = [v_a, v_b, (.int a_p)] ∧ (rT K rI) H a_a v_a ∧ (rT K rI) H a_b v_b ∧ wp (m_multiply_rows a_a a_b a_p) (fun r => ∀ v H', Gr [] H H' → (rT K rI) H' r v → Q v H') (fun _ => False)
theorem ok_multiply_rows {P : Program} {w : World} {K : PySem.W.Frag} {mg : Str → Option Value} {base : Heap} {f : Addr} {fd : FuncData} (F : Fun K "multiply_rows" "multiply_rows" s_multiply_rows f fd) (z_len : mg "len" = none) (z_enumerate : mg "enumerate" = none) (c_trimmed : Cal P w K mg base CX0 2 "trimmed" ["row", "p"] (sp_trimmed K)) : FnOk P w K mg base CX0 3 f fd ["a", "b", "p"] (sp_multiply_rows K) := by
  obtain ⟨f_trimmed, fd_trimmed, G_trimmed, g_trimmed, k_trimmed, b_trimmed⟩ := c_trimmed
  refine F.ok sc_multiply_rows (fun vs H Q E h => ?_) (fun cdv A outer s H0 vs Q E hr h => ?_)
  · obtain ⟨a_a, v_a, a_b, v_b, a_p, rfl, h_a, h_b, hm⟩ := h
    rfl
  · obtain ⟨a_a, v_a, a_b, v_b, a_p, rfl, h_a, h_b, hm⟩ := h
    have hm : wp (m_multiply_rows a_a a_b a_p) _ _ := hm
    unfold m_multiply_rows at hm
    refine ⟨_, (pss_cons (ps_set (i := 3) sc_multiply_rows.nd rfl (Or.inl rfl) (pe_op op_rep (pe_lst (pa_cons pe_int pa_nil)) (pe_op op_add (pe_callB (lenK (K := K) rfl) (by rfl) z_len PySem.boot_len (pa_cons (pv 0) pa_nil)) (pe_callB (lenK (K := K) rfl) (by rfl) z_len PySem.boot_len (pa_cons (pv 1) pa_nil))))) (pss_cons (ps_for PassesOwn.never rfl (pi_enumT (K := K) (by rfl) z_enumerate (pa_cons (pv 0) pa_nil) rfl) (pg_tup rfl (pgs_cons (pg_name (i := 4) sc_multiply_rows.nd rfl (Or.inl rfl)) (pgs_cons (pg_name (i := 5) sc_multiply_rows.nd rfl (Or.inl rfl)) pgs_nil))) (pss_one (ps_for PassesOwn.never rfl (pi_enumT (K := K) (by rfl) z_enumerate (pa_cons (pv 1) pa_nil) rfl) (pg_tup rfl (pgs_cons (pg_name (i := 6) sc_multiply_rows.nd rfl (Or.inl rfl)) (pgs_cons (pg_name (i := 7) sc_multiply_rows.nd rfl (Or.inl rfl)) pgs_nil))) (pss_one (ps_asg (pe_op op_add (pe_ix (ix_listK (K := K) rfl) (pv 3) (pe_op op_add (pv 4) (pv 6)) (fun _ _ => rfl)) (pe_op op_mul (pv 5) (pv 7))) (pg_sub (pv 3) (pe_op op_add (pv 4) (pv 6)) set_list)))))) (pss_one (ps_ret (pe_call G_trimmed (hr.mono (by decide)) (by rfl) g_trimmed k_trimmed b_trimmed .nil pass0 (pa_cons (pv 3) (pa_cons (pv 2) pa_nil))))))), ?_⟩
    have g0 := Gr.refl (A := []) H0
    refine rd_seq (rd_asg (rd_op (rd_lst (rd_cons (rd_c (rd_nil (mk_L (r := rI) (xs := [(0 : Int)]) (.cons rfl .nil) (by show 1 ≤ sizeLine; decide) fun p1 H2 n3 g4 h5 => ?_)))))))
    have nw6 := Gr.free g0 n3
    have h_a := Imm.mono g4 h_a
    have h_b := Imm.mono g4 h_b
    have g0 := g0.of0' g4
    obtain ⟨c7, hm⟩ := wp_grd hm
    refine rd_op (rd_cb (rd_cons (rd_var rfl (rd_nil (len_T h_a (rd_cb (rd_cons (rd_var rfl (rd_nil (len_T h_b (rd_rI0 (rep_L h5 c7 fun p8 H9 n10 g11 h12 => ?_))))))))))))
    have nw13 := Gr.free g0 n10
    have h_a := Imm.mono g11 h_a
    have h_b := Imm.mono g11 h_b
    have g0 := g0.of0' g11
    refine rd_gn ?_
    refine rd_nx ?_
    refine seq_join (t := tFor _ _ _) (wp_bind hm) (fun (s : (List Int)) (σ : L2.St) (H : Hp) => ∃ (o21 : Option V) (o22 : Option V) (o23 : Option V) (o24 : Option V), σ = [some v_a, some v_b, some (.int a_p), some (.ref p8), o21, o22, o23, o24] ∧ Gr [p8] H9 H ∧ Ls rI H p8 s) (fun N15 hN16 hm => ?_) (fun s17 σ H18 hr19 hm => ?_)
    · have gl20 := Gr.refl (A := [p8]) H9
      obtain ⟨a29, ea33, vs30, hl31, hp32⟩ := id h_a
      have gl34 := Gr.refl (A := [p8]) H9
      refine rd_for (rd_ienumT (rd_cons (rd_var rfl (rd_nil (enum_t ea33 hl31 (for_R (r := (rP K rI rI)) (H0 := H9) (wk_enumT hp32) (fun (s : (List Int)) (σ : L2.St) (H : Hp) => ∃ (o21 : Option V) (o22 : Option V) (o23 : Option V) (o24 : Option V), σ = [some v_a, some v_b, some (.int a_p), some (.ref p8), o21, o22, o23, o24] ∧ Gr [p8] H9 H ∧ Ls rI H p8 s) (by exact wp_N hm (fun s σ' H' hr hz => hN16 s σ' H' hr hz)) ⟨_, _, _, _, rfl, gl34, h12⟩ (fun _ _ _ hr => by obtain ⟨_, _, _, _, _, g, _⟩ := hr; exact ⟨g.tup hl31, _, g⟩) (fun x35 v36 s25 σ H26 H38 N28 hr27 hg39 hx37 hm => ?_)))))))
      unfold m_multiply_rows_b2 at hm
      obtain ⟨o43, o44, o45, o46, rfl, g41, h42⟩ := hr27
      have h_a := Imm.mono g41 h_a
      have h_b := Imm.mono g41 h_b
      have g0 := Gr.many g0 (all1 ((.inr nw13)) all0) g41
      have gl34 := Gr.many gl34 (all1 ((.inl (by simp))) all0) g41
      have h_a := Imm.mono hg39 h_a
      have h_b := Imm.mono hg39 h_b
      have h42 := Ls.g0 hg39 h42
      have g0 := g0.of0' hg39
      have gl34 := gl34.of0' hg39
      obtain ⟨a47, x48, x49, ea53, h50, h51, h52⟩ := id hx37
      obtain rfl := h51
      obtain rfl := h52
      refine rd_gtE ea53 h50 rfl (rd_gc (rd_gn (rd_gc (rd_gn (rd_g0 ?_)))))
      refine nx_join (t := tFor _ _ _) (wp_bind hm) (fun (s : (List Int)) (σ : L2.St) (H : Hp) => ∃ (o61 : Option V) (o62 : Option V), σ = [some v_a, some v_b, some (.int a_p), some (.ref p8), some (.int x35.1), some (.int x35.2), o61, o62] ∧ Gr [p8] H38 H ∧ Ls rI H p8 s) (fun N55 hN56 hm => ?_) (fun s57 σ H58 hr59 hm => ?_)
      · have gl60 := Gr.refl (A := [p8]) H38
        obtain ⟨a67, ea71, vs68, hl69, hp70⟩ := id h_b
        have gl72 := Gr.refl (A := [p8]) H38
        refine rd_for (rd_ienumT (rd_cons (rd_var rfl (rd_nil (enum_t ea71 hl69 (for_R (r := (rP K rI rI)) (H0 := H38) (wk_enumT hp70) (fun (s : (List Int)) (σ : L2.St) (H : Hp) => ∃ (o61 : Option V) (o62 : Option V), σ = [some v_a, some v_b, some (.int a_p), some (.ref p8), some (.int x35.1), some (.int x35.2), o61, o62] ∧ Gr [p8] H38 H ∧ Ls rI H p8 s) (by exact wp_N hm (fun s σ' H' hr hz => hN56 s σ' H' hr hz)) ⟨_, _, rfl, gl72, h42⟩ (fun _ _ _ hr => by obtain ⟨_, _, _, g, _⟩ := hr; exact ⟨g.tup hl69, _, g⟩) (fun x73 v74 s63 σ H64 H76 N66 hr65 hg77 hx75 hm => ?_)))))))
        unfold m_multiply_rows_b1 at hm
        obtain ⟨o81, o82, rfl, g79, h80⟩ := hr65
        have h_a := Imm.mono g79 h_a
        have h_b := Imm.mono g79 h_b
        have g0 := Gr.many g0 (all1 ((.inr nw13)) all0) g79
        have gl34 := Gr.many gl34 (all1 ((.inl (by simp))) all0) g79
        have gl72 := Gr.many gl72 (all1 ((.inl (by simp))) all0) g79
        have h_a := Imm.mono hg77 h_a
        have h_b := Imm.mono hg77 h_b
        have h80 := Ls.g0 hg77 h80
        have g0 := g0.of0' hg77
        have gl34 := gl34.of0' hg77
        have gl72 := gl72.of0' hg77
        obtain ⟨a83, x84, x85, ea89, h86, h87, h88⟩ := id hx75
        obtain rfl := h87
        obtain rfl := h88
        refine rd_gtE ea89 h86 rfl (rd_gc (rd_gn (rd_gc (rd_gn (rd_g0 ?_)))))
        refine rd_asg (rd_op (rd_op (rd_var rfl (rd_op (rd_var rfl (rd_var rfl (rd_rI0 (ix_L (Ls.q h80) (wp_bind hm) fun t90 v91 h92 hm => ?_))))))))
        obtain rfl := h92
        obtain ⟨c93, hm⟩ := wp_grd hm
        refine rd_op (rd_var rfl (rd_var rfl (rd_rI (c93) (rd_rI0 (rd_gs (rd_var rfl (rd_op (rd_var rfl (rd_var rfl (rd_rI0 (rd_set h80 rfl (wp_bind hm) fun t94 H95 g96 h97 hm => ?_)))))))))))
        have h_a := Imm.mono g96 h_a
        have h_b := Imm.mono g96 h_b
        have g0 := Gr.loc g0 nw13 g96
        have gl34 := Gr.at1 gl34 (by simp) g96
        have gl72 := Gr.at1 gl72 (by simp) g96
        exact hm _ _ ⟨_, _, rfl, gl72, h97⟩
      obtain ⟨o100, o101, rfl, g98, h99⟩ := hr59
      have h_a := Imm.mono g98 h_a
      have h_b := Imm.mono g98 h_b
      have g0 := Gr.many g0 (all1 ((.inr nw13)) all0) g98
      have gl34 := Gr.many gl34 (all1 ((.inl (by simp))) all0) g98
      exact hm _ _ ⟨_, _, _, _, rfl, gl34, h99⟩
    obtain ⟨o104, o105, o106, o107, rfl, g102, h103⟩ := hr19
    have h_a := Imm.mono g102 h_a
    have h_b := Imm.mono g102 h_b
    have g0 := Gr.many g0 (all1 ((.inr nw13)) all0) g102
    refine rd_ret (rd_call (rd_cons (rd_var rfl (rd_cons (rd_var rfl (rd_nil ⟨_, _, _, rfl, h103, wp_imp (wp_bind hm) (fun t108 hm v111 H109 g110 h112 => ?_) (fun _ e => e)⟩))))))
    have h103 := Ls.g0 g110 h103
    have g0 := g0.of0' g110
    exact hm _ _ g0 h112

abbrev lw_lam1 : LW := lwOf "power_row.<locals>.<lambda>" (aArg 3 (aReturn (aBody 1 (topS 24))))
theorem ndb_lam1 : NdefX.ndefB (defScope (topS 24)) lw_lam1.scope ["m", "p"] = true := by decide +kernel
def m_lam1 (k_m : (List Int)) (k_p : Int) (a_x : (List Int)) (a_y : (List Int)) : R (List Int) :=
  (noEr (m_multiply_rows a_x a_y k_p)).bind fun t1 => (m_divide_rows t1 k_m k_p).bind fun t6 => R.ok t6.2
def spl_lam1 (K : PySem.W.Frag) (C : Xc) : List (Option V) → Sp := fun ws vs H Q E => ∃ (k_m : (List Int)) (vk_m : V) (k_p : Int) (a_x : (List Int)) (va_x : V) (a_y : (List Int)) (va_y : V), ws = [some vk_m, some (.int k_p)] ∧ vs = [va_x, va_y] ∧ (rT K rI) H k_m vk_m ∧ (rT K rI) H a_x va_x ∧ (rT K rI) H a_y va_y ∧ wp (m_lam1 k_m k_p a_x a_y) (fun r => ∀ v H', Gr [] H H' → (rT K rI) H' r v → Q v H') (XEr C [] H E)
theorem nsc_lam1 : NdefX.NScope ["x", "y", "m", "p"] ["x", "y"] ["m", "p"] lw_lam1.scope := NdefX.nscope_by (by decide +kernel)
theorem okl_lam1 {P : Program} {w : World} {K : PySem.W.Frag} {mg : Str → Option Value} {base : Heap} {c_fault c_zd c_mal c_refu : Addr}  (c_multiply_rows : Cal P w K mg base CX0 3 "multiply_rows" ["a", "b", "p"] (sp_multiply_rows K)) (c_divide_rows : Cal P w K mg base (CX P w) 3 "divide_rows" ["a", "b", "p"] (sp_divide_rows K (⟨some c_fault, some c_zd, some c_mal, some c_refu, none⟩ : Xc))) : LOk P w K mg base (CX P w) 4 lw_lam1 ["x", "y"] ["m", "p"] (spl_lam1 K (⟨some c_fault, some c_zd, some c_mal, some c_refu, none⟩ : Xc)) := by
  obtain ⟨f_multiply_rows, fd_multiply_rows, G_multiply_rows, g_multiply_rows, k_multiply_rows, b_multiply_rows⟩ := c_multiply_rows
  obtain ⟨f_divide_rows, fd_divide_rows, G_divide_rows, g_divide_rows, k_divide_rows, b_divide_rows⟩ := c_divide_rows
  refine lok_of nsc_lam1 (fun _ _ _ _ us hl => match us, hl with | [_, _], _ => rfl) (fun ws vs H Q E h => ?_) (fun A outer s H0 vs ws Q E f c cl hr h => ?_)
  · obtain ⟨k_m, vk_m, k_p, a_x, va_x, a_y, va_y, rfl, rfl, hk_m, ha_x, ha_y, hm⟩ := h
    rfl
  · obtain ⟨k_m, vk_m, k_p, a_x, va_x, a_y, va_y, rfl, rfl, hk_m, ha_x, ha_y, hm⟩ := h
    have hm : wp (m_lam1 k_m k_p a_x a_y) _ _ := hm
    unfold m_lam1 at hm
    refine ⟨_, (pe_ix (ix_tupK (K := K) rfl) (pe_callS G_divide_rows (hr.mono (by decide)) (by rfl) g_divide_rows k_divide_rows b_divide_rows (fun σ => passAt (takes_of rfl rfl rfl rfl) σ) (pa_cons (pe_call G_multiply_rows (hr.mono (by decide)) (by rfl) g_multiply_rows k_multiply_rows b_multiply_rows .nil pass0 (pa_cons (pv 0) (pa_cons (pv 1) (pa_cons (pv 3) pa_nil)))) (pa_cons (pv 2) (pa_cons (pv 3) pa_nil)))) pe_int (fun _ _ => rfl)), ?_⟩
    have g0 := Gr.refl (A := []) H0
    refine rd_op (rd_callS (rd_cons (rd_call (rd_cons (rd_var rfl (rd_cons (rd_var rfl (rd_cons (rd_var rfl (rd_nil ⟨_, _, _, _, _, rfl, ha_x, ha_y, wp_imp (wp_bindN hm) (fun t1 hm v4 H2 g3 h5 => ?_) (fun _ e => e)⟩))))))))))
    have hk_m := Imm.mono g3 hk_m
    have ha_x := Imm.mono g3 ha_x
    have ha_y := Imm.mono g3 ha_y
    have g0 := g0.of0' g3
    refine rd_cons (rd_var rfl (rd_cons (rd_var rfl (rd_nil ⟨_, _, _, _, _, rfl, h5, hk_m, wp_imp (wp_bind hm) (fun t6 hm v9 H7 g8 h10 => ?_) (fun _ e => XEr.sub g0 e)⟩))))
    have hk_m := Imm.mono g8 hk_m
    have ha_x := Imm.mono g8 ha_x
    have ha_y := Imm.mono g8 ha_y
    have g0 := g0.of0' g8
    refine rd_c (ix_P21 h10 (by rfl) fun v12 h13 => ?_)
    exact hm _ _ g0 h13

abbrev s_by_squaring : Stmt := topS 11
abbrev n_by_squaring : List Str := ["one", "base", "k", "product", "power", "square", "rest"]
theorem sc_by_squaring : FnScope n_by_squaring ["one", "base", "k", "product"] (defScope s_by_squaring) := ⟨rfl, rfl, rfl, by decide +kernel, rfl, by decide +kernel, by decide +kernel⟩
def m_by_squaring_b1 (s10 : (List Int) × (List Int) × Int) : R Bool :=
  R.ok (decide ((0 : Int) < s10.2.2))
def m_by_squaring_b2 (a_product : ((List Int) → (List Int) → R (List Int))) (s10 : (List Int) × (List Int) × Int) : R ((List Int) × (List Int) × Int) :=
  (if (decide ((s10.2.2 % (2 : Int)) = (1 : Int))) = true then ((a_product s10.1 s10.2.1).bind fun t33 => R.ok t33) else (R.ok s10.1)).bind fun s28 => if (decide ((0 : Int) < (s10.2.2 / (2 : Int)))) = true then ((a_product s10.2.1 s10.2.1).bind fun t43 => R.ok (s28, t43, (s10.2.2 / (2 : Int)))) else (R.ok (s28, s10.2.1, (s10.2.2 / (2 : Int))))
def m_by_squaring (a_one : (List Int)) (a_base : (List Int)) (a_k : Int) (a_product : ((List Int) → (List Int) → R (List Int))) : R (List Int) :=
  (whileR m_by_squaring_b1 (m_by_squaring_b2 a_product) 100000 (a_one, a_base, a_k)).bind fun s4 => R.ok s4.1
def sp_by_squaring (K : PySem.W.Frag) (C : Xc) : Addr → Addr → List (Option V) → Sp := fun lf lc ws vs H Q E => ∃ (k_m : (List Int)) (vk_m : V) (k_p : Int) (a_one : (List Int)) (v_one : V) (a_base : (List Int)) (v_base : V) (a_k : Int), ws = [some vk_m, some (.int k_p)] ∧ vs = [v_one, v_base, (.int a_k), .ref lf] ∧ (rT K rI) H k_m vk_m ∧ (rT K rI) H a_one v_one ∧ (rT K rI) H a_base v_base ∧ H lc = some (CodeO lc lw_lam1.qual) ∧ wp (m_by_squaring a_one a_base a_k (m_lam1 k_m k_p)) (fun r => ∀ v H', Gr [] H H' → (rT K rI) H' r v → Q v H') (XEr C [] H E)
theorem ok_by_squaring {P : Program} {w : World} {K : PySem.W.Frag} {mg : Str → Option Value} {base : Heap} {f : Addr} {fd : FuncData} {c_fault c_zd c_mal c_refu : Addr} (F : Fun K "by_squaring" "by_squaring" s_by_squaring f fd) (o_lam1 : LOk P w K mg base (CX P w) 4 lw_lam1 ["x", "y"] ["m", "p"] (spl_lam1 K (⟨some c_fault, some c_zd, some c_mal, some c_refu, none⟩ : Xc))) : FnOkC P w K mg base (CX P w) 5 f fd ["one", "base", "k", "product"] lw_lam1 ["m", "p"] (sp_by_squaring K (⟨some c_fault, some c_zd, some c_mal, some c_refu, none⟩ : Xc)) := by
  refine fun_okC F sc_by_squaring (fun lf lc ws vs H Q E h => ?_) (fun cdv A outer s H0 vs Q E lf lc cl ws hr T h => ?_)
  · obtain ⟨k_m, vk_m, k_p, a_one, v_one, a_base, v_base, a_k, rfl, rfl, hk_m, h_one, h_base, hcode, hm⟩ := h
    rfl
  · obtain ⟨k_m, vk_m, k_p, a_one, v_one, a_base, v_base, a_k, rfl, rfl, hk_m, h_one, h_base, hcode, hm⟩ := h
    have hm : wp (m_by_squaring a_one a_base a_k (m_lam1 k_m k_p)) _ _ := hm
    unfold m_by_squaring at hm
    refine ⟨_, (pss_cons (ps_set (i := 4) sc_by_squaring.nd rfl (Or.inl rfl) (pv 0)) (pss_cons (ps_set (i := 5) sc_by_squaring.nd rfl (Or.inl rfl) (pv 1)) (pss_cons (ps_set (i := 6) sc_by_squaring.nd rfl (Or.inl rfl) (pv 2)) (pss_cons (ps_while PassesOwn.leaving (pt_cmpR op_gt (pv 6) pe_int (nomark _)) (pss_cons (ps_if (pt_cmpR op_eqI (pe_op op_mod (pv 6) pe_int) pe_int (nomark _)) (pss_one (ps_set (i := 4) sc_by_squaring.nd rfl (Or.inl rfl) (pe_act (i := 3) T rfl o_lam1 (hr) (by decide) (fun σ => passAt (takes_of rfl rfl rfl rfl) σ) rfl (.inl rfl) (pa_cons (pv 4) (pa_cons (pv 5) pa_nil))))) pss_nil) (pss_cons (ps_set (i := 6) sc_by_squaring.nd rfl (Or.inl rfl) (pe_op op_fdiv (pv 6) pe_int)) (pss_one (ps_if (pt_cmpR op_gt (pv 6) pe_int (nomark _)) (pss_one (ps_set (i := 5) sc_by_squaring.nd rfl (Or.inl rfl) (pe_act (i := 3) T rfl o_lam1 (hr) (by decide) (fun σ => passAt (takes_of rfl rfl rfl rfl) σ) rfl (.inl rfl) (pa_cons (pv 5) (pa_cons (pv 5) pa_nil))))) pss_nil))))) (pss_one (ps_ret (pv 4))))))), ?_⟩
    have g0 := Gr.refl (A := []) H0
    have h_product : rF lc lw_lam1.qual H0 () (.ref lf) := rF_of hcode
    refine rd_seq (rd_asg (rd_var rfl (rd_gn ?_)))
    refine rd_nx ?_
    refine rd_seq (rd_asg (rd_var rfl (rd_gn ?_)))
    refine rd_nx ?_
    refine rd_seq (rd_asg (rd_var rfl (rd_gn ?_)))
    refine rd_nx ?_
    refine seq_join (t := tWhile _ _) (wp_bind hm) (fun (s : (List Int) × (List Int) × Int) (σ : L2.St) (H : Hp) => ∃ (w8 : V) (w9 : V), σ = [some v_one, some v_base, some (.int a_k), some (.ref lf), some w8, some w9, some (.int s.2.2)] ∧ Gr [] H0 H ∧ (rT K rI) H s.1 w8 ∧ (rT K rI) H s.2.1 w9) (fun N2 hN3 hm => ?_) (fun s4 σ H5 hr6 hm => ?_)
    · have gl7 := Gr.refl (A := []) H0
      refine whl_R (fun (s : (List Int) × (List Int) × Int) (σ : L2.St) (H : Hp) => ∃ (w8 : V) (w9 : V), σ = [some v_one, some v_base, some (.int a_k), some (.ref lf), some w8, some w9, some (.int s.2.2)] ∧ Gr [] H0 H ∧ (rT K rI) H s.1 w8 ∧ (rT K rI) H s.2.1 w9) (by exact wp_N hm (fun s σ' H' hr hz => hN3 s σ' H' hr hz)) ⟨_, _, rfl, gl7, h_one, h_base⟩ (fun s10 σ H11 N13 W14 m15 hW16 hr12 hm => ?_)
      unfold m_by_squaring_b1 at hm
      obtain ⟨w20, w22, rfl, g19, h21, h23⟩ := hr12
      have hk_m := Imm.mono g19 hk_m
      have h_product := Imm.mono g19 h_product
      have g0 := Gr.of0' g0 g19
      have gl7 := Gr.of0' gl7 g19
      refine rd_T (rd_op (rd_var rfl (rd_c (rd_rI0 (rd_kB ?_)))))
      refine iteB' (fun e24 => ?_) (fun e24 => ?_)
      · exact ifF e24 hm _ _ ⟨_, _, rfl, gl7, h21, h23⟩
      have hm := ifT e24 hm
      unfold m_by_squaring_b2 at hm
      refine ⟨N13, hW16, ?_⟩
      refine seq_join (t := tIfS _ _ _) (wp_bind hm) (fun (s : (List Int)) (σ : L2.St) (H : Hp) => ∃ (w38 : V), σ = [some v_one, some v_base, some (.int a_k), some (.ref lf), some w38, some w22, some (.int s10.2.2)] ∧ Gr [] H11 H ∧ (rT K rI) H s w38) (fun N26 hN27 hm => ?_) (fun s28 σ H29 hr30 hm => ?_)
      · have gl31 := Gr.refl (A := []) H11
        refine rd_if (rd_T (rd_op (rd_op (rd_var rfl (rd_c (rd_rI (by show (0 : Int) < 2; decide) (rd_c (rd_rI0 (rd_kB ?_)))))))))
        refine iteB (fun e32 => ?_) (fun e32 => ?_)
        · have hm := ifT e32 (wp_iteB hm)
          refine rd_asg (rd_act rfl (rd_cons (rd_var rfl (rd_cons (rd_var rfl (rd_nil ⟨h_product, _, _, _, _, _, _, _, rfl, rfl, hk_m, h21, h23, wp_imp (wp_bind hm) (fun t33 hm v36 H34 g35 h37 => ?_) (fun _ e => XEr.sub g0 e)⟩))))))
          have hk_m := Imm.mono g35 hk_m
          have h_product := Imm.mono g35 h_product
          have h21 := Imm.mono g35 h21
          have h23 := Imm.mono g35 h23
          have g0 := g0.of0' g35
          have gl7 := gl7.of0' g35
          have gl31 := gl31.of0' g35
          refine rd_gn ?_
          exact hN27 _ _ _ ⟨_, rfl, gl31, h37⟩ hm
        have hm := ifF e32 (wp_iteB hm)
        exact rd_next (hN27 _ _ _ ⟨_, rfl, gl31, h21⟩ hm)
      obtain ⟨w40, rfl, g39, h41⟩ := hr30
      have hk_m := Imm.mono g39 hk_m
      have h_product := Imm.mono g39 h_product
      have h23 := Imm.mono g39 h23
      have g0 := Gr.of0' g0 g39
      have gl7 := Gr.of0' gl7 g39
      refine rd_seq (rd_asg (rd_op (rd_var rfl (rd_c (rd_rI ⟨by decide, by decide⟩ (rd_gn ?_))))))
      refine rd_nx ?_
      refine rd_if (rd_T (rd_op (rd_var rfl (rd_c (rd_rI0 (rd_kB ?_))))))
      refine iteB (fun e42 => ?_) (fun e42 => ?_)
      · have hm := ifT e42 (wp_iteB hm)
        refine rd_asg (rd_act rfl (rd_cons (rd_var rfl (rd_cons (rd_var rfl (rd_nil ⟨h_product, _, _, _, _, _, _, _, rfl, rfl, hk_m, h23, h23, wp_imp (wp_bind hm) (fun t43 hm v46 H44 g45 h47 => ?_) (fun _ e => XEr.sub g0 e)⟩))))))
        have hk_m := Imm.mono g45 hk_m
        have h_product := Imm.mono g45 h_product
        have h23 := Imm.mono g45 h23
        have h41 := Imm.mono g45 h41
        have g0 := g0.of0' g45
        have gl7 := gl7.of0' g45
        refine rd_gn ?_
        exact hm _ _ ⟨_, _, rfl, gl7, h41, h47⟩
      have hm := ifF e42 (wp_iteB hm)
      exact rd_next (hm _ _ ⟨_, _, rfl, gl7, h41, h23⟩)
    obtain ⟨w49, w51, rfl, g48, h50, h52⟩ := hr6
    have hk_m := Imm.mono g48 hk_m
    have h_product := Imm.mono g48 h_product
    have g0 := Gr.of0' g0 g48
    exact rd_ret (rd_var rfl (hm _ _ g0 h50))

abbrev s_power_row : Stmt := topS 24
abbrev n_power_row : List Str := ["a", "k", "m", "p", "start"]
theorem sc_power_row : FnScope n_power_row ["a", "k", "m", "p"] (defScope s_power_row) := ⟨rfl, rfl, rfl, by decide +kernel, rfl, by decide +kernel, by decide +kernel⟩
def m_power_row (a_a : (List Int)) (a_k : Int) (a_m : (List Int)) (a_p : Int) : R (List Int) :=
  (m_divide_rows a_a a_m a_p).bind fun t1 => (m_by_squaring ([(1 : Int)]) t1.2 a_k (m_lam1 a_m a_p)).bind fun t18 => R.ok t18
def sp_power_row (K : PySem.W.Frag) (C : Xc) (TT : List Addr) : Sp := fun vs H Q E => ∃ (a_a : (List Int)) (v_a : V) (a_k : Int) (a_m : (List Int)) (v_m : V) (a_p : Int), vs = [v_a, (.int a_k), v_m, (.int a_p)] ∧ (rT K rI) H a_a v_a ∧ (rT K rI) H a_m v_m ∧ TabsA TT H ∧ wp (m_power_row a_a a_k a_m a_p) (fun r => ∀ v H', Gr [] H H' → (rT K rI) H' r v → Q v H') (XEr C [] H E)
theorem ok_power_row {P : Program} {w : World} {K : PySem.W.Frag} {mg : Str → Option Value} {base : Heap} {f : Addr} {fd : FuncData} {c_fault c_zd c_mal c_refu : Addr} {TT : List Addr} {cT PT : Addr} (F : FunT K "power_row" "power_row" s_power_row f fd cT PT) (TB : LamX.TabB base mg cT PT) (hPT : PT ∈ TT) (c_divide_rows : Cal P w K mg base (CX P w) 3 "divide_rows" ["a", "b", "p"] (sp_divide_rows K (⟨some c_fault, some c_zd, some c_mal, some c_refu, none⟩ : Xc))) (c_by_squaring : CalC P w K mg base (CX P w) 5 "by_squaring" ["one", "base", "k", "product"] lw_lam1 ["m", "p"] (sp_by_squaring K (⟨some c_fault, some c_zd, some c_mal, some c_refu, none⟩ : Xc))) : FnOk P w K mg base (CX P w) 6 f fd ["a", "k", "m", "p"] (sp_power_row K (⟨some c_fault, some c_zd, some c_mal, some c_refu, none⟩ : Xc) TT) := by
  obtain ⟨f_divide_rows, fd_divide_rows, G_divide_rows, g_divide_rows, k_divide_rows, b_divide_rows⟩ := c_divide_rows
  obtain ⟨f_by_squaring, fd_by_squaring, G_by_squaring, g_by_squaring, k_by_squaring, b_by_squaring⟩ := c_by_squaring
  refine funT_okX F sc_power_row (fun vs H Q E h => ?_) (fun A outer s H0 vs Q E hr h => ?_)
  · obtain ⟨a_a, v_a, a_k, a_m, v_m, a_p, rfl, h_a, h_m, hTT, hm⟩ := h
    rfl
  · obtain ⟨a_a, v_a, a_k, a_m, v_m, a_p, rfl, h_a, h_m, hTT, hm⟩ := h
    have hm : wp (m_power_row a_a a_k a_m a_p) _ _ := hm
    unfold m_power_row at hm
    refine ⟨_, (pss_cons (ps_set (i := 4) sc_power_row.nd rfl (Or.inl rfl) (pe_ix (ix_tupK (K := K) rfl) (pe_callS G_divide_rows (hr.mono (by decide)) (by rfl) g_divide_rows k_divide_rows b_divide_rows (fun σ => passAt (takes_of rfl rfl rfl rfl) σ) (pa_cons (pv 0) (pa_cons (pv 2) (pa_cons (pv 3) pa_nil)))) pe_int (fun _ _ => rfl))) (pss_one (ps_ret (pe_callL (js := [2, 3]) G_by_squaring (hr.mono (by decide)) (by rfl) g_by_squaring k_by_squaring b_by_squaring (fun σ => passAt (takes_of rfl rfl rfl rfl) σ) (fun ok => Caps.made ok (ndef_free ndb_lam1) (ndef_fr ndb_lam1) rfl) (pl_cons (pe_tup (pa_cons pe_int pa_nil)) (pl_cons (pv 4) (pl_cons (pv 1) (pl_nil (L := lw_lam1) TB rfl rfl (by decide +kernel) rfl (ndef_free ndb_lam1))))))))), ?_⟩
    have g0 := Gr.refl (A := []) H0
    refine rd_seq (rd_asg (rd_op (rd_callS (rd_cons (rd_var rfl (rd_cons (rd_var rfl (rd_cons (rd_var rfl (rd_nil ⟨_, _, _, _, _, rfl, h_a, h_m, wp_imp (wp_bind hm) (fun t1 hm v4 H2 g3 h5 => ?_) (fun _ e => XEr.sub g0 e)⟩))))))))))
    have h_a := Imm.mono g3 h_a
    have h_m := Imm.mono g3 h_m
    have g0 := g0.of0' g3
    refine rd_c (ix_P21 h5 (by rfl) fun v7 h8 => ?_)
    refine rd_gn ?_
    refine rd_nx ?_
    refine rd_ret (rd_callL (rd_lcons (rd_tup (rd_cons (rd_c (rd_nil (mk_T (K := K) (r := rI) (xs := [(1 : Int)]) (.cons rfl .nil) (by show 1 ≤ sizeLine; decide) fun v9 H10 g11 h12 => ?_)))))))
    have h_m := Imm.mono g11 h_m
    have h8 := Imm.mono g11 h8
    have g0 := g0.of0' g11
    refine rd_lcons (rd_var rfl (rd_lcons (rd_var rfl (rd_lnil (hTT.gr g0 _ hPT) fun lf13 lc14 H15 g16 hc17 => ?_))))
    have h_m := Imm.mono g16 h_m
    have h8 := Imm.mono g16 h8
    have h12 := Imm.mono g16 h12
    have g0 := g0.of0' g16
    refine ⟨_, _, _, _, _, _, _, _, rfl, rfl, h_m, h12, h8, hc17, wp_imp (wp_bind hm) (fun t18 hm v21 H19 g20 h22 => ?_) (fun _ e => XEr.sub g0 e)⟩
    have h_m := Imm.mono g20 h_m
    have h8 := Imm.mono g20 h8
    have g0 := g0.of0' g20
    exact hm _ _ g0 h22

abbrev s_filled_up : Stmt := topS 17
abbrev n_filled_up : List Str := ["items", "length", "zero"]
theorem sc_filled_up : FnScope n_filled_up ["items", "length", "zero"] (defScope s_filled_up) := ⟨rfl, rfl, rfl, by decide +kernel, rfl, by decide +kernel, by decide +kernel⟩
def m_filled_up (a_items : (List Int)) (a_length : Int) (a_zero : Int) : R (List Int) :=
  grd (([a_zero]).isEmpty = false) <| grd (repOk ([a_zero]) (a_length - ((a_items).length : Int))) <| grd (lenOk (a_items ++ (repL ([a_zero]) (a_length - ((a_items).length : Int))))) <| R.ok (a_items ++ (repL ([a_zero]) (a_length - ((a_items).length : Int))))
def sp_filled_up (K : PySem.W.Frag) : Sp := fun vs H Q _ => ∃ (a_items : (List Int)) (v_items : V) (a_length : Int) (a_zero : Int), vs = [v_items, (.int a_length), (.int a_zero)] ∧ (rT K rI) H a_items v_items ∧ wp (m_filled_up a_items a_length a_zero) (fun r => ∀ v H', Gr [] H H' → (rT K rI) H' r v → Q v H') (fun _ => False)
theorem ok_filled_up {P : Program} {w : World} {K : PySem.W.Frag} {mg : Str → Option Value} {base : Heap} {f : Addr} {fd : FuncData} (F : Fun K "filled_up" "filled_up" s_filled_up f fd) (z_tuple : mg "tuple" = none) (z_len : mg "len" = none) : FnOk P w K mg base CX0 1 f fd ["items", "length", "zero"] (sp_filled_up K) := by
  refine F.ok sc_filled_up (fun vs H Q E h => ?_) (fun cdv A outer s H0 vs Q E hr h => ?_)
  · obtain ⟨a_items, v_items, a_length, a_zero, rfl, h_items, hm⟩ := h
    rfl
  · obtain ⟨a_items, v_items, a_length, a_zero, rfl, h_items, hm⟩ := h
    have hm : wp (m_filled_up a_items a_length a_zero) _ _ := hm
    unfold m_filled_up at hm
    refine ⟨_, (pss_one (ps_ret (pe_op (catAK (K := K) rfl) (pe_callTy (tupleK (K := K) rfl) (by rfl) z_tuple (by decide +kernel) (pa_cons (pv 0) pa_nil)) (pe_op (op_repA (K := K) rfl) (pe_tup (pa_cons (pv 2) pa_nil)) (pe_op op_sub (pv 1) (pe_callB (lenK (K := K) rfl) (by rfl) z_len PySem.boot_len (pa_cons (pv 0) pa_nil))))))), ?_⟩
    have g0 := Gr.refl (A := []) H0
    refine rd_ret (rd_op (rd_cb (rd_cons (rd_var rfl (rd_nil (tup_of_T h_items (rd_op (rd_tup (rd_cons (rd_var rfl (rd_nil (mk_T (K := K) (r := rI) (xs := [a_zero]) (.cons rfl .nil) (by show 1 ≤ sizeLine; decide) fun v1 H2 g3 h4 => ?_))))))))))))
    have h_items := Imm.mono g3 h_items
    have g0 := g0.of0' g3
    obtain ⟨c5, hm⟩ := wp_grd hm
    obtain ⟨c6, hm⟩ := wp_grd hm
    refine rd_op (rd_var rfl (rd_cb (rd_cons (rd_var rfl (rd_nil (len_T h_items (rd_rI0 (rep_T h4 c5 c6 fun v7 H8 g9 h10 => ?_))))))))
    have h_items := Imm.mono g9 h_items
    have g0 := g0.of0' g9
    obtain ⟨c11, hm⟩ := wp_grd hm
    refine cat_TA h_items h10 c11 fun v12 H13 g14 h15 => ?_
    have h_items := Imm.mono g14 h_items
    have g0 := g0.of0' g14
    exact hm _ _ g0 h15

abbrev s_filled_up_2 : Stmt := topS 17
abbrev n_filled_up_2 : List Str := ["items", "length", "zero"]
theorem sc_filled_up_2 : FnScope n_filled_up_2 ["items", "length", "zero"] (defScope s_filled_up_2) := ⟨rfl, rfl, rfl, by decide +kernel, rfl, by decide +kernel, by decide +kernel⟩
def m_filled_up_2 (a_items : (List Int)) (a_length : Int) (a_zero : Int) : R (List Int) :=
  grd (([a_zero]).isEmpty = false) <| grd (repOk ([a_zero]) (a_length - ((a_items).length : Int))) <| grd (lenOk (a_items ++ (repL ([a_zero]) (a_length - ((a_items).length : Int))))) <| R.ok (a_items ++ (repL ([a_zero]) (a_length - ((a_items).length : Int))))
def sp_filled_up_2 (K : PySem.W.Frag) : Sp := fun vs H Q _ => ∃ (a_items : (List Int)) (p_items : Addr) (a_length : Int) (a_zero : Int), vs = [.ref p_items, (.int a_length), (.int a_zero)] ∧ Ls rI H p_items a_items ∧ wp (m_filled_up_2 a_items a_length a_zero) (fun r => ∀ v H', Gr [] H H' → (rT K rI) H' r v → Q v H') (fun _ => False)
theorem ok_filled_up_2 {P : Program} {w : World} {K : PySem.W.Frag} {mg : Str → Option Value} {base : Heap} {f : Addr} {fd : FuncData} (F : Fun K "filled_up" "filled_up" s_filled_up_2 f fd) (z_tuple : mg "tuple" = none) (z_len : mg "len" = none) : FnOk P w K mg base CX0 1 f fd ["items", "length", "zero"] (sp_filled_up_2 K) := by
  refine F.ok sc_filled_up_2 (fun vs H Q E h => ?_) (fun cdv A outer s H0 vs Q E hr h => ?_)
  · obtain ⟨a_items, p_items, a_length, a_zero, rfl, h_items, hm⟩ := h
    rfl
  · obtain ⟨a_items, p_items, a_length, a_zero, rfl, h_items, hm⟩ := h
    have hm : wp (m_filled_up_2 a_items a_length a_zero) _ _ := hm
    unfold m_filled_up_2 at hm
    refine ⟨_, (pss_one (ps_ret (pe_op (catAK (K := K) rfl) (pe_callTy (tupleK (K := K) rfl) (by rfl) z_tuple (by decide +kernel) (pa_cons (pv 0) pa_nil)) (pe_op (op_repA (K := K) rfl) (pe_tup (pa_cons (pv 2) pa_nil)) (pe_op op_sub (pv 1) (pe_callB (lenK (K := K) rfl) (by rfl) z_len PySem.boot_len (pa_cons (pv 0) pa_nil))))))), ?_⟩
    have g0 := Gr.refl (A := []) H0
    refine rd_ret (rd_op (rd_cb (rd_cons (rd_var rfl (rd_nil (tup_of_L (K := K) (Ls.q h_items) fun v1 H2 g3 h4 => ?_))))))
    have h_items := Ls.g0 g3 h_items
    have g0 := g0.of0' g3
    refine rd_op (rd_tup (rd_cons (rd_var rfl (rd_nil (mk_T (K := K) (r := rI) (xs := [a_zero]) (.cons rfl .nil) (by show 1 ≤ sizeLine; decide) fun v5 H6 g7 h8 => ?_)))))
    have h_items := Ls.g0 g7 h_items
    have h4 := Imm.mono g7 h4
    have g0 := g0.of0' g7
    obtain ⟨c9, hm⟩ := wp_grd hm
    obtain ⟨c10, hm⟩ := wp_grd hm
    refine rd_op (rd_var rfl (rd_cb (rd_cons (rd_var rfl (rd_nil (len_L (Ls.q h_items) (rd_rI0 (rep_T h8 c9 c10 fun v11 H12 g13 h14 => ?_))))))))
    have h_items := Ls.g0 g13 h_items
    have h4 := Imm.mono g13 h4
    have g0 := g0.of0' g13
    obtain ⟨c15, hm⟩ := wp_grd hm
    refine cat_TA h4 h14 c15 fun v16 H17 g18 h19 => ?_
    have h_items := Ls.g0 g18 h_items
    have g0 := g0.of0' g18
    exact hm _ _ g0 h19

abbrev s_add_rows : Stmt := topS 19
abbrev n_add_rows : List Str := ["a", "b", "p", "length", "x", "y"]
theorem sc_add_rows : FnScope n_add_rows ["a", "b", "p"] (defScope s_add_rows) := ⟨rfl, rfl, rfl, by decide +kernel, rfl, by decide +kernel, by decide +kernel⟩
def m_add_rows_b1 (s28 : List Int) (x29 : (Int × Int)) : R (List Int) :=
  grd (lenLt s28) <| R.ok (s28 ++ [(x29.1 + x29.2)])
def m_add_rows (a_a : (List Int)) (a_b : (List Int)) (a_p : Int) : R (List Int) :=
  (m_filled_up a_a (pmax ((a_a).length : Int) ((a_b).length : Int)) (0 : Int)).bind fun t1 => (m_filled_up_2 a_b (pmax ((a_a).length : Int) ((a_b).length : Int)) (0 : Int)).bind fun t6 => (foldR m_add_rows_b1 ([]) (t1.zip t6)).bind fun s35 => (m_trimmed s35 a_p).bind fun t56 => R.ok t56
def sp_add_rows (K : PySem.W.Frag) : Sp := fun vs H Q _ => ∃ (a_a : (List Int)) (v_a : V) (a_b : (List Int)) (p_b : Addr) (a_p : Int), vs = [v_a, .ref p_b, (.int a_p)] ∧ (rT K rI) H a_a v_a ∧ Ls rI H p_b a_b ∧ wp (m_add_rows a_a a_b a_p) (fun r => ∀ v H', Gr [] H H' → (rT K rI) H' r v → Q v H') (fun _ => False)
theorem ok_add_rows {P : Program} {w : World} {K : PySem.W.Frag} {mg : Str → Option Value} {base : Heap} {f : Addr} {fd : FuncData} (F : Fun K "add_rows" "add_rows" s_add_rows f fd) (z_len : mg "len" = none) (z_max : mg "max" = none) (z_zip : mg "zip" = none) (c_filled_up : Cal P w K mg base CX0 1 "filled_up" ["items", "length", "zero"] (sp_filled_up K)) (c_filled_up_2 : Cal P w K mg base CX0 1 "filled_up" ["items", "length", "zero"] (sp_filled_up_2 K)) (c_trimmed : Cal P w K mg base CX0 2 "trimmed" ["row", "p"] (sp_trimmed K)) : FnOk P w K mg base CX0 3 f fd ["a", "b", "p"] (sp_add_rows K) := by
  obtain ⟨f_filled_up, fd_filled_up, G_filled_up, g_filled_up, k_filled_up, b_filled_up⟩ := c_filled_up
  obtain ⟨f_filled_up_2, fd_filled_up_2, G_filled_up_2, g_filled_up_2, k_filled_up_2, b_filled_up_2⟩ := c_filled_up_2
  obtain ⟨f_trimmed, fd_trimmed, G_trimmed, g_trimmed, k_trimmed, b_trimmed⟩ := c_trimmed
  refine F.ok sc_add_rows (fun vs H Q E h => ?_) (fun cdv A outer s H0 vs Q E hr h => ?_)
  · obtain ⟨a_a, v_a, a_b, p_b, a_p, rfl, h_a, h_b, hm⟩ := h
    rfl
  · obtain ⟨a_a, v_a, a_b, p_b, a_p, rfl, h_a, h_b, hm⟩ := h
    have hm : wp (m_add_rows a_a a_b a_p) _ _ := hm
    unfold m_add_rows at hm
    refine ⟨_, (pss_cons (ps_set (i := 3) sc_add_rows.nd rfl (Or.inl rfl) (pe_callB (call_max2 rfl) (by rfl) z_max (by decide +kernel) (pa_cons (pe_callB (lenK (K := K) rfl) (by rfl) z_len PySem.boot_len (pa_cons (pv 0) pa_nil)) (pa_cons (pe_callB (lenK (K := K) rfl) (by rfl) z_len PySem.boot_len (pa_cons (pv 1) pa_nil)) pa_nil)))) (pss_one (ps_ret (pe_call G_trimmed (hr.mono (by decide)) (by rfl) g_trimmed k_trimmed b_trimmed .nil pass0 (pa_cons (pe_lc (own := [("x", 4), ("y", 5)]) (g := (gTup K 2 (gCons (gName 4) (gCons (gName 5) gNil)))) (tt := tYes) rfl sc_add_rows.nd (pi_zipK (K := K) (by rfl) z_zip (pa_cons (pe_call G_filled_up (hr.mono (by decide)) (by rfl) g_filled_up k_filled_up b_filled_up .nil pass0 (pa_cons (pv 0) (pa_cons (pv 3) (pa_cons pe_int pa_nil)))) (pa_cons (pe_call G_filled_up_2 (hr.mono (by decide)) (by rfl) g_filled_up_2 k_filled_up_2 b_filled_up_2 .nil pass0 (pa_cons (pv 1) (pa_cons (pv 3) (pa_cons pe_int pa_nil)))) pa_nil)) rfl) (blkOk_by (own := [("x", 4), ("y", 5)]) (N := n_add_rows) (sc := defScope s_add_rows) (by decide +kernel)) (fun _ _ _ _ _ => pg_tup rfl (pgs_cons (pg_name (i := 4) sc_add_rows.nd rfl (Or.inl rfl) (Or.inr rfl)) (pgs_cons (pg_name (i := 5) sc_add_rows.nd rfl (Or.inl rfl) (Or.inr rfl)) pgs_nil))) (fun _ _ _ _ _ => pts_nil) (fun _ _ _ _ _ => (pe_op op_add (pv 4) (pv 5)))) (pa_cons (pv 2) pa_nil)))))), ?_⟩
    have g0 := Gr.refl (A := []) H0
    refine rd_seq (rd_asg (rd_cb (rd_cons (rd_cb (rd_cons (rd_var rfl (rd_nil (len_T h_a (rd_cons (rd_cb (rd_cons (rd_var rfl (rd_nil (len_L (Ls.q h_b) (rd_nil (rd_max (rd_gn ?_)))))))))))))))))
    refine rd_nx ?_
    refine rd_ret (rd_call (rd_cons (rd_lc (rd_izip (rd_cons (rd_call (rd_cons (rd_var rfl (rd_cons (rd_var rfl (rd_cons (rd_c (rd_nil ⟨_, _, _, _, rfl, h_a, wp_imp (wp_bind hm) (fun t1 hm v4 H2 g3 h5 => ?_) (fun _ e => e)⟩)))))))))))))
    have h_a := Imm.mono g3 h_a
    have h_b := Ls.g0 g3 h_b
    have g0 := g0.of0' g3
    refine rd_cons (rd_call (rd_cons (rd_var rfl (rd_cons (rd_var rfl (rd_cons (rd_c (rd_nil ⟨_, _, _, _, rfl, h_b, wp_imp (wp_bind hm) (fun t6 hm v9 H7 g8 h10 => ?_) (fun _ e => e)⟩))))))))
    have h_a := Imm.mono g8 h_a
    have h_b := Ls.g0 g8 h_b
    have h5 := Imm.mono g8 h5
    have g0 := g0.of0' g8
    obtain ⟨a11, ea15, vs12, hl13, hp14⟩ := id h5
    obtain ⟨a16, ea20, vs17, hl18, hp19⟩ := id h10
    refine rd_nil (zip_t ea15 ea20 hl13 hl18 (fun p21 n22 => ?_))
    have ne23 : p_b ≠ p21 := Ls.ne h_b n22
    have nw24 := Gr.free g0 n22
    refine lc_R (r := (rP K rI rI)) (H0 := H7) (H1 := H7) (wk_zipT hp14 hp19) (fun (s : List Int) (H : Hp) => Gr [] H7 H ∧ Ls rI H p21 s) (wp_bind hm) ⟨Gr.new n22, ⟨[], upd_same, .nil⟩⟩ (fun _ _ hr => by obtain ⟨g, _⟩ := hr; exact ⟨⟨g.tup hl13, g.tup hl18⟩, _, g⟩) (fun x29 v30 s28 H32 H38 N33 hr34 hg39 hx31 hm => ?_) (fun s35 H36 hr37 hm => ?_)
    · unfold m_add_rows_b1 at hm
      obtain ⟨g40, h41⟩ := hr34
      have h_a := Imm.mono g40 h_a
      have h_b := Ls.gA g40 nin0 h_b
      have g0 := Gr.of0' g0 g40
      have gl42 := g40
      have h_a := Imm.mono hg39 h_a
      have h_b := Ls.g0 hg39 h_b
      have h41 := Ls.g0 hg39 h41
      have g0 := g0.of0' hg39
      have gl42 := gl42.of0' hg39
      obtain ⟨a43, x44, x45, ea49, h46, h47, h48⟩ := id hx31
      obtain rfl := h47
      obtain rfl := h48
      obtain ⟨c50, hm⟩ := wp_grd hm
      refine rd_gtE ea49 h46 rfl (rd_gc (rd_gn (rd_gc (rd_gn (rd_g0 ⟨rfl, rd_yes (iteT (rd_op (rd_var rfl (rd_var rfl (rd_rI0 (lc_add h41 rfl c50 fun H51 g52 h53 => ?_))))))⟩)))))
      have h_a := Imm.mono g52 h_a
      have h_b := Ls.g1 g52 ne23 h_b
      have g0 := Gr.loc g0 nw24 g52
      have gl42 := Gr.loc gl42 n22 g52
      exact hm _ ⟨gl42, h53⟩
    obtain ⟨g54, h55⟩ := hr37
    have h_a := Imm.mono g54 h_a
    have h_b := Ls.gA g54 nin0 h_b
    have g0 := Gr.of0' g0 g54
    refine rd_cons (rd_var rfl (rd_nil ⟨_, _, _, rfl, h55, wp_imp (wp_bind hm) (fun t56 hm v59 H57 g58 h60 => ?_) (fun _ e => e)⟩))
    have h_a := Imm.mono g58 h_a
    have h_b := Ls.g0 g58 h_b
    have g0 := g0.of0' g58
    exact hm _ _ g0 h60

abbrev s_subtract_rows : Stmt := topS 20
abbrev n_subtract_rows : List Str := ["a", "b", "p", "item"]
theorem sc_subtract_rows : FnScope n_subtract_rows ["a", "b", "p"] (defScope s_subtract_rows) := ⟨rfl, rfl, rfl, by decide +kernel, rfl, by decide +kernel, by decide +kernel⟩
def m_subtract_rows_b1 (s12 : List Int) (x13 : Int) : R (List Int) :=
  grd (lenLt s12) <| R.ok (s12 ++ [(-x13)])
def m_subtract_rows (a_a : (List Int)) (a_b : (List Int)) (a_p : Int) : R (List Int) :=
  (foldR m_subtract_rows_b1 ([]) a_b).bind fun s19 => (m_add_rows a_a s19 a_p).bind fun t31 => R.ok t31
def sp_subtract_rows (K : PySem.W.Frag) : Sp := fun vs H Q _ => ∃ (a_a : (List Int)) (v_a : V) (a_b : (List Int)) (v_b : V) (a_p : Int), vs = [v_a, v_b, (.int a_p)] ∧ (rT K rI) H a_a v_a ∧ (rT K rI) H a_b v_b ∧ wp (m_subtract_rows a_a a_b a_p) (fun r => ∀ v H', Gr [] H H' → (rT K rI) H' r v → Q v H') (fun _ => False)
theorem ok_subtract_rows {P : Program} {w : World} {K : PySem.W.Frag} {mg : Str → Option Value} {base : Heap} {f : Addr} {fd : FuncData} (F : Fun K "subtract_rows" "subtract_rows" s_subtract_rows f fd) (c_add_rows : Cal P w K mg base CX0 3 "add_rows" ["a", "b", "p"] (sp_add_rows K)) : FnOk P w K mg base CX0 4 f fd ["a", "b", "p"] (sp_subtract_rows K) := by
  obtain ⟨f_add_rows, fd_add_rows, G_add_rows, g_add_rows, k_add_rows, b_add_rows⟩ := c_add_rows
  refine F.ok sc_subtract_rows (fun vs H Q E h => ?_) (fun cdv A outer s H0 vs Q E hr h => ?_)
  · obtain ⟨a_a, v_a, a_b, v_b, a_p, rfl, h_a, h_b, hm⟩ := h
    rfl
  · obtain ⟨a_a, v_a, a_b, v_b, a_p, rfl, h_a, h_b, hm⟩ := h
    have hm : wp (m_subtract_rows a_a a_b a_p) _ _ := hm
    unfold m_subtract_rows at hm
    refine ⟨_, (pss_one (ps_ret (pe_call G_add_rows (hr.mono (by decide)) (by rfl) g_add_rows k_add_rows b_add_rows .nil pass0 (pa_cons (pv 0) (pa_cons (pe_lc (own := [("item", 3)]) (g := gName 3) (tt := tYes) rfl sc_subtract_rows.nd (pi_tupK (K := K) (pv 1) rfl) (blkOk_by (own := [("item", 3)]) (N := n_subtract_rows) (sc := defScope s_subtract_rows) (by decide +kernel)) (fun _ _ _ _ _ => pg_name (i := 3) sc_subtract_rows.nd rfl (Or.inl rfl)) (fun _ _ _ _ _ => pts_nil) (fun _ _ _ _ _ => (pe_un un_neg (pv 3)))) (pa_cons (pv 2) pa_nil)))))), ?_⟩
    have g0 := Gr.refl (A := []) H0
    obtain ⟨a4, ea5, vs1, hl2, hp3⟩ := id h_b
    refine rd_ret (rd_call (rd_cons (rd_var rfl (rd_cons (rd_lc (rd_it (rd_var rfl ⟨_, ea5, ⟨_, hl2⟩, fun p6 n7 => ?_⟩)))))))
    have nw8 := Gr.free g0 n7
    refine lc_tup (r := rI) (H1 := H0) (fun (s : List Int) (H : Hp) => Gr [] H0 H ∧ Ls rI H p6 s) hp3 (wp_bind hm) ⟨Gr.new n7, ⟨[], upd_same, .nil⟩⟩ (fun _ _ hr => by obtain ⟨g, _⟩ := hr; exact g.tup hl2) (fun x13 v14 s12 H16 N17 hx15 hr18 hm => ?_) (fun s19 H20 hr21 hm => ?_)
    · unfold m_subtract_rows_b1 at hm
      obtain ⟨g22, h23⟩ := hr18
      have h_a := Imm.mono g22 h_a
      have h_b := Imm.mono g22 h_b
      have g0 := Gr.of0' g0 g22
      have gl24 := g22
      obtain rfl := hx15
      obtain ⟨c25, hm⟩ := wp_grd hm
      refine rd_gn ⟨rfl, rd_yes (iteT (rd_un (rd_var rfl (rd_rU (lc_add h23 rfl c25 fun H26 g27 h28 => ?_)))))⟩
      have h_a := Imm.mono g27 h_a
      have h_b := Imm.mono g27 h_b
      have g0 := Gr.loc g0 nw8 g27
      have gl24 := Gr.loc gl24 n7 g27
      exact hm _ ⟨gl24, h28⟩
    obtain ⟨g29, h30⟩ := hr21
    have h_a := Imm.mono g29 h_a
    have h_b := Imm.mono g29 h_b
    have g0 := Gr.of0' g0 g29
    refine rd_cons (rd_var rfl (rd_nil ⟨_, _, _, _, _, rfl, h_a, h30, wp_imp (wp_bind hm) (fun t31 hm v34 H32 g33 h35 => ?_) (fun _ e => e)⟩))
    have h_a := Imm.mono g33 h_a
    have h_b := Imm.mono g33 h_b
    have g0 := g0.of0' g33
    exact hm _ _ g0 h35

abbrev s_common_row : Stmt := topS 23
abbrev n_common_row : List Str := ["a", "b", "p", "divisor", "rest"]
theorem sc_common_row : FnScope n_common_row ["a", "b", "p"] (defScope s_common_row) := ⟨rfl, rfl, rfl, by decide +kernel, rfl, by decide +kernel, by decide +kernel⟩
def m_common_row_b1 (s10 : (List Int) × (List Int)) : R Bool :=
  R.ok (!(s10.2).isEmpty)
def m_common_row_b2 (a_p : Int) (s10 : (List Int) × (List Int)) : R ((List Int) × (List Int)) :=
  (m_divide_rows s10.1 s10.2 a_p).bind fun t25 => R.ok (s10.2, t25.2)
def m_common_row (a_a : (List Int)) (a_b : (List Int)) (a_p : Int) : R (List Int) :=
  (whileR m_common_row_b1 (m_common_row_b2 a_p) 100000 (a_a, a_b)).bind fun s4 => if (!(!(s4.1).isEmpty)) = true then (R.ok ([])) else ((getL s4.1 (-(1 : Int))).bind fun t43 => (m_inverse_modulo t43 a_p).bind fun t46 => (noEr (m_multiply_rows s4.1 ([t46]) a_p)).bind fun t53 => R.ok t53)
def sp_common_row (K : PySem.W.Frag) (C : Xc) : Sp := fun vs H Q E => ∃ (a_a : (List Int)) (v_a : V) (a_b : (List Int)) (v_b : V) (a_p : Int), vs = [v_a, v_b, (.int a_p)] ∧ (rT K rI) H a_a v_a ∧ (rT K rI) H a_b v_b ∧ wp (m_common_row a_a a_b a_p) (fun r => ∀ v H', Gr [] H H' → (rT K rI) H' r v → Q v H') (XEr C [] H E)
theorem ok_common_row {P : Program} {w : World} {K : PySem.W.Frag} {mg : Str → Option Value} {base : Heap} {f : Addr} {fd : FuncData} {c_fault c_zd c_mal c_refu : Addr} (F : Fun K "common_row" "common_row" s_common_row f fd) (c_divide_rows : Cal P w K mg base (CX P w) 3 "divide_rows" ["a", "b", "p"] (sp_divide_rows K (⟨some c_fault, some c_zd, some c_mal, some c_refu, none⟩ : Xc))) (c_inverse_modulo : Cal P w K mg base (CX P w) 2 "inverse_modulo" ["a", "m"] (sp_inverse_modulo K (⟨some c_fault, some c_zd, some c_mal, some c_refu, none⟩ : Xc))) (c_multiply_rows : Cal P w K mg base CX0 3 "multiply_rows" ["a", "b", "p"] (sp_multiply_rows K)) : FnOk P w K mg base (CX P w) 4 f fd ["a", "b", "p"] (sp_common_row K (⟨some c_fault, some c_zd, some c_mal, some c_refu, none⟩ : Xc)) := by
  obtain ⟨f_divide_rows, fd_divide_rows, G_divide_rows, g_divide_rows, k_divide_rows, b_divide_rows⟩ := c_divide_rows
  obtain ⟨f_inverse_modulo, fd_inverse_modulo, G_inverse_modulo, g_inverse_modulo, k_inverse_modulo, b_inverse_modulo⟩ := c_inverse_modulo
  obtain ⟨f_multiply_rows, fd_multiply_rows, G_multiply_rows, g_multiply_rows, k_multiply_rows, b_multiply_rows⟩ := c_multiply_rows
  refine F.okX sc_common_row (fun vs H Q E h => ?_) (fun cdv A outer s H0 vs Q E hr h => ?_)
  · obtain ⟨a_a, v_a, a_b, v_b, a_p, rfl, h_a, h_b, hm⟩ := h
    rfl
  · obtain ⟨a_a, v_a, a_b, v_b, a_p, rfl, h_a, h_b, hm⟩ := h
    have hm : wp (m_common_row a_a a_b a_p) _ _ := hm
    unfold m_common_row at hm
    refine ⟨_, (pss_cons (ps_par (i := 3) (j := 4) rfl sc_common_row.nd rfl rfl (by decide) rfl rfl (pa_cons (pv 0) (pa_cons (pv 1) pa_nil)) (by rfl)) (pss_cons (ps_while PassesOwn.leaving (pt_tru (K := K) (pv 4) rfl) (pss_one (ps_par (i := 3) (j := 4) rfl sc_common_row.nd rfl rfl (by decide) rfl rfl (pa_cons (pv 4) (pa_cons (pe_ix (ix_tupK (K := K) rfl) (pe_callS G_divide_rows (hr.mono (by decide)) (by rfl) g_divide_rows k_divide_rows b_divide_rows (fun σ => passAt (takes_of rfl rfl rfl rfl) σ) (pa_cons (pv 3) (pa_cons (pv 4) (pa_cons (pv 2) pa_nil)))) pe_int (fun _ _ => rfl)) pa_nil)) (by rfl)))) (pss_cons (ps_if (pt_not (pt_tru (K := K) (pv 3) rfl)) (pss_one (ps_ret (pe_tup pa_nil))) pss_nil) (pss_one (ps_ret (pe_call G_multiply_rows (hr.mono (by decide)) (by rfl) g_multiply_rows k_multiply_rows b_multiply_rows .nil pass0 (pa_cons (pv 3) (pa_cons (pe_tup (pa_cons (pe_callS G_inverse_modulo (hr.mono (by decide)) (by rfl) g_inverse_modulo k_inverse_modulo b_inverse_modulo (fun σ => passAt (takes_of rfl rfl rfl rfl) σ) (pa_cons (pe_ix (ix_tupK (K := K) rfl) (pv 3) (pe_un un_neg pe_int) (fun _ _ => rfl)) (pa_cons (pv 2) pa_nil))) pa_nil)) (pa_cons (pv 2) pa_nil))))))))), ?_⟩
    have g0 := Gr.refl (A := []) H0
    refine rd_seq (rd_par (rd_cons (rd_var rfl (rd_cons (rd_var rfl (rd_nil (rd_kp2 ?_)))))))
    refine rd_nx ?_
    refine seq_join (t := tWhile _ _) (wp_bind hm) (fun (s : (List Int) × (List Int)) (σ : L2.St) (H : Hp) => ∃ (w8 : V) (w9 : V), σ = [some v_a, some v_b, some (.int a_p), some w8, some w9] ∧ Gr [] H0 H ∧ (rT K rI) H s.1 w8 ∧ (rT K rI) H s.2 w9) (fun N2 hN3 hm => ?_) (fun s4 σ H5 hr6 hm => ?_)
    · have gl7 := Gr.refl (A := []) H0
      refine whl_R (fun (s : (List Int) × (List Int)) (σ : L2.St) (H : Hp) => ∃ (w8 : V) (w9 : V), σ = [some v_a, some v_b, some (.int a_p), some w8, some w9] ∧ Gr [] H0 H ∧ (rT K rI) H s.1 w8 ∧ (rT K rI) H s.2 w9) (by exact wp_N hm (fun s σ' H' hr hz => hN3 s σ' H' hr hz)) ⟨_, _, rfl, gl7, h_a, h_b⟩ (fun s10 σ H11 N13 W14 m15 hW16 hr12 hm => ?_)
      unfold m_common_row_b1 at hm
      obtain ⟨w20, w22, rfl, g19, h21, h23⟩ := hr12
      have g0 := Gr.of0' g0 g19
      have gl7 := Gr.of0' gl7 g19
      refine rd_Tru (rd_var rfl (tru_T h23 ?_))
      refine iteB' (fun e24 => ?_) (fun e24 => ?_)
      · exact ifF e24 hm _ _ ⟨_, _, rfl, gl7, h21, h23⟩
      have hm := ifT e24 hm
      unfold m_common_row_b2 at hm
      refine ⟨N13, hW16, ?_⟩
      refine rd_par (rd_cons (rd_var rfl (rd_cons (rd_op (rd_callS (rd_cons (rd_var rfl (rd_cons (rd_var rfl (rd_cons (rd_var rfl (rd_nil ⟨_, _, _, _, _, rfl, h21, h23, wp_imp (wp_bind hm) (fun t25 hm v28 H26 g27 h29 => ?_) (fun _ e => XEr.sub g0 e)⟩))))))))))))
      have h21 := Imm.mono g27 h21
      have h23 := Imm.mono g27 h23
      have g0 := g0.of0' g27
      have gl7 := gl7.of0' g27
      refine rd_c (ix_P21 h29 (by rfl) fun v31 h32 => ?_)
      refine rd_nil (rd_kp2 ?_)
      exact hm _ _ ⟨_, _, rfl, gl7, h23, h32⟩
    obtain ⟨w34, w36, rfl, g33, h35, h37⟩ := hr6
    have g0 := Gr.of0' g0 g33
    refine rd_seq (rd_if (rd_not (rd_Tru (rd_var rfl (tru_T h35 ?_)))))
    refine iteB (fun e38 => ?_) (fun e38 => ?_)
    · have hm := ifT e38 (wp_iteB hm)
      refine rd_ret (rd_tup (rd_nil (mk_T (K := K) (r := rI) (xs := []) .nil (by show 0 ≤ sizeLine; decide) fun v39 H40 g41 h42 => ?_)))
      have h35 := Imm.mono g41 h35
      have g0 := g0.of0' g41
      exact hm _ _ g0 h42
    have hm := ifF e38 (wp_iteB hm)
    refine rd_next (rd_nx ?_)
    refine rd_ret (rd_call (rd_cons (rd_var rfl (rd_cons (rd_tup (rd_cons (rd_callS (rd_cons (rd_op (rd_var rfl (rd_un (rd_c (rd_rU (ix_T h35 (wp_bind hm) fun t43 v44 h45 hm => ?_))))))))))))))
    obtain rfl := h45
    refine rd_cons (rd_var rfl (rd_nil ⟨_, _, rfl, wp_imp (wp_bind hm) (fun t46 hm H47 g48 => ?_) (fun _ e => XEr.sub g0 e)⟩))
    have h35 := Imm.mono g48 h35
    have g0 := g0.of0' g48
    refine rd_nil (mk_T (K := K) (r := rI) (xs := [t46]) (.cons rfl .nil) (by show 1 ≤ sizeLine; decide) fun v49 H50 g51 h52 => ?_)
    have h35 := Imm.mono g51 h35
    have g0 := g0.of0' g51
    refine rd_cons (rd_var rfl (rd_nil ⟨_, _, _, _, _, rfl, h35, h52, wp_imp (wp_bindN hm) (fun t53 hm v56 H54 g55 h57 => ?_) (fun _ e => e)⟩))
    have h35 := Imm.mono g55 h35
    have g0 := g0.of0' g55
    exact hm _ _ g0 h57

abbrev s_is_irreducible_row : Stmt := topS 25
abbrev n_is_irreducible_row : List Str := ["m", "p", "degree", "x", "power", "_"]
theorem sc_is_irreducible_row : FnScope n_is_irreducible_row ["m", "p"] (defScope s_is_irreducible_row) := ⟨rfl, rfl, rfl, by decide +kernel, rfl, by decide +kernel, by decide +kernel⟩
def m_is_irreducible_row_b1 (a_m : (List Int)) (a_p : Int) (s15 : (List Int)) (x21 : Int) : R (Lp ((List Int)) (Bool)) :=
  (m_power_row s15 a_p a_m a_p).bind fun t29 => (noEr (m_subtract_rows t29 ([(0 : Int), (1 : Int)]) a_p)).bind fun t34 => (m_common_row a_m t34 a_p).bind fun t39 => if (decide ((1 : Int) < ((t39).length : Int))) = true then (R.ok (Lp.rt false)) else (R.ok (Lp.nx t29))
def m_is_irreducible_row (a_m : (List Int)) (a_p : Int) : R Bool :=
  if (decide ((((a_m).length : Int) - (1 : Int)) < (1 : Int))) = true then (R.ok false) else ((grd (rgOk ((((a_m).length : Int) - (1 : Int)) / (2 : Int))) <| loopR (m_is_irreducible_row_b1 a_m a_p) ([(0 : Int), (1 : Int)]) (rng 0 (((((a_m).length : Int) - (1 : Int)) / (2 : Int))).toNat)).bind fun o => Le.thn o (fun s9 => R.ok true) (fun r => R.ok r))
def sp_is_irreducible_row (K : PySem.W.Frag) (C : Xc) (TT : List Addr) : Sp := fun vs H Q E => ∃ (a_m : (List Int)) (v_m : V) (a_p : Int), vs = [v_m, (.int a_p)] ∧ (rT K rI) H a_m v_m ∧ TabsA TT H ∧ wp (m_is_irreducible_row a_m a_p) (fun r => ∀ H', Gr [] H H' → Q (.bl r) H') (XEr C [] H E)
theorem ok_is_irreducible_row {P : Program} {w : World} {K : PySem.W.Frag} {mg : Str → Option Value} {base : Heap} {f : Addr} {fd : FuncData} {c_fault c_zd c_mal c_refu : Addr} {TT : List Addr} (F : Fun K "is_irreducible_row" "is_irreducible_row" s_is_irreducible_row f fd) (z_len : mg "len" = none) (z_range : mg "range" = none) (c_power_row : Cal P w K mg base (CX P w) 6 "power_row" ["a", "k", "m", "p"] (sp_power_row K (⟨some c_fault, some c_zd, some c_mal, some c_refu, none⟩ : Xc) TT)) (c_subtract_rows : Cal P w K mg base CX0 4 "subtract_rows" ["a", "b", "p"] (sp_subtract_rows K)) (c_common_row : Cal P w K mg base (CX P w) 4 "common_row" ["a", "b", "p"] (sp_common_row K (⟨some c_fault, some c_zd, some c_mal, some c_refu, none⟩ : Xc))) : FnOk P w K mg base (CX P w) 7 f fd ["m", "p"] (sp_is_irreducible_row K (⟨some c_fault, some c_zd, some c_mal, some c_refu, none⟩ : Xc) TT) := by
  obtain ⟨f_power_row, fd_power_row, G_power_row, g_power_row, k_power_row, b_power_row⟩ := c_power_row
  obtain ⟨f_subtract_rows, fd_subtract_rows, G_subtract_rows, g_subtract_rows, k_subtract_rows, b_subtract_rows⟩ := c_subtract_rows
  obtain ⟨f_common_row, fd_common_row, G_common_row, g_common_row, k_common_row, b_common_row⟩ := c_common_row
  refine F.okX sc_is_irreducible_row (fun vs H Q E h => ?_) (fun cdv A outer s H0 vs Q E hr h => ?_)
  · obtain ⟨a_m, v_m, a_p, rfl, h_m, hTT, hm⟩ := h
    rfl
  · obtain ⟨a_m, v_m, a_p, rfl, h_m, hTT, hm⟩ := h
    have hm : wp (m_is_irreducible_row a_m a_p) _ _ := hm
    unfold m_is_irreducible_row at hm
    refine ⟨_, (pss_cons (ps_set (i := 2) sc_is_irreducible_row.nd rfl (Or.inl rfl) (pe_op op_sub (pe_callB (lenK (K := K) rfl) (by rfl) z_len PySem.boot_len (pa_cons (pv 0) pa_nil)) pe_int)) (pss_cons (ps_if (pt_cmpR op_lt (pv 2) pe_int (nomark _)) (pss_one (ps_ret pe_bl)) pss_nil) (pss_cons (ps_set (i := 3) sc_is_irreducible_row.nd rfl (Or.inl rfl) (pe_tup (pa_cons pe_int (pa_cons pe_int pa_nil)))) (pss_cons (ps_set (i := 4) sc_is_irreducible_row.nd rfl (Or.inl rfl) (pv 3)) (pss_cons (ps_for PassesOwn.leaving rfl (pi_range1 (by rfl) z_range (pa_cons (pe_op op_fdiv (pv 2) pe_int) pa_nil)) (pg_name (i := 5) sc_is_irreducible_row.nd rfl (Or.inl rfl)) (pss_cons (ps_set (i := 4) sc_is_irreducible_row.nd rfl (Or.inl rfl) (pe_callS G_power_row (hr.mono (by decide)) (by rfl) g_power_row k_power_row b_power_row (fun σ => passAt (takes_of rfl rfl rfl rfl) σ) (pa_cons (pv 4) (pa_cons (pv 1) (pa_cons (pv 0) (pa_cons (pv 1) pa_nil)))))) (pss_one (ps_if (pt_cmpR op_gt (pe_callB (lenK (K := K) rfl) (by rfl) z_len PySem.boot_len (pa_cons (pe_callS G_common_row (hr.mono (by decide)) (by rfl) g_common_row k_common_row b_common_row (fun σ => passAt (takes_of rfl rfl rfl rfl) σ) (pa_cons (pv 0) (pa_cons (pe_call G_subtract_rows (hr.mono (by decide)) (by rfl) g_subtract_rows k_subtract_rows b_subtract_rows .nil pass0 (pa_cons (pv 4) (pa_cons (pv 3) (pa_cons (pv 1) pa_nil)))) (pa_cons (pv 1) pa_nil)))) pa_nil)) pe_int (nomark _)) (pss_one (ps_ret pe_bl)) pss_nil)))) (pss_one (ps_ret pe_bl))))))), ?_⟩
    have g0 := Gr.refl (A := []) H0
    refine rd_seq (rd_asg (rd_op (rd_cb (rd_cons (rd_var rfl (rd_nil (len_T h_m (rd_c (rd_rI0 (rd_gn ?_))))))))))
    refine rd_nx ?_
    refine rd_seq (rd_if (rd_T (rd_op (rd_var rfl (rd_c (rd_rI0 (rd_kB ?_)))))))
    refine iteB (fun e1 => ?_) (fun e1 => ?_)
    · have hm := ifT e1 (wp_iteB hm)
      exact rd_ret (rd_c (hm _ g0))
    have hm := ifF e1 (wp_iteB hm)
    refine rd_next (rd_nx ?_)
    refine rd_seq (rd_asg (rd_tup (rd_cons (rd_c (rd_cons (rd_c (rd_nil (mk_T (K := K) (r := rI) (xs := [(0 : Int), (1 : Int)]) (.cons rfl (.cons rfl .nil)) (by show 2 ≤ sizeLine; decide) fun v2 H3 g4 h5 => ?_))))))))
    have h_m := Imm.mono g4 h_m
    have g0 := g0.of0' g4
    refine rd_gn ?_
    refine rd_nx ?_
    refine rd_seq (rd_asg (rd_var rfl (rd_gn ?_)))
    refine rd_nx ?_
    refine seq_joinL (t := tFor _ _ _) (wp_le hm) (fun (s : (List Int)) (σ : L2.St) (H : Hp) => ∃ (w13 : V) (o14 : Option V), σ = [some v_m, some (.int a_p), some (.int (((a_m).length : Int) - (1 : Int))), some v2, some w13, o14] ∧ Gr [] H3 H ∧ (rT K rI) H s w13) (fun N7 hm => ?_) (fun s9 σ H10 hr11 hm => ?_)
    · have gl12 := Gr.refl (A := []) H3
      obtain ⟨c19, hm⟩ := wp_grd hm
      have gl20 := Gr.refl (A := []) H3
      refine rd_for (rd_r1 (rd_cons (rd_op (rd_var rfl (rd_c (rd_rI ⟨by decide, by decide⟩ (rd_nil ⟨_, rfl, c19.1, c19.2, for_rngL (lo := 0) (n := (((((a_m).length : Int) - (1 : Int)) / (2 : Int))).toNat) (fun (s : (List Int)) (σ : L2.St) (H : Hp) => ∃ (w13 : V) (o14 : Option V), σ = [some v_m, some (.int a_p), some (.int (((a_m).length : Int) - (1 : Int))), some v2, some w13, o14] ∧ Gr [] H3 H ∧ (rT K rI) H s w13) (by exact wp_imp hm (fun o ho => leP_imp ho (fun s hz σ' H' hr => hz σ' H' hr) (fun _ h => h)) (fun _ e => e)) ⟨_, _, rfl, gl20, h5⟩ (fun x21 s15 σ H16 N18 hr17 hm => ?_)⟩)))))))
      unfold m_is_irreducible_row_b1 at hm
      obtain ⟨w26, o28, rfl, g25, h27⟩ := hr17
      have h_m := Imm.mono g25 h_m
      have h5 := Imm.mono g25 h5
      have g0 := Gr.of0' g0 g25
      have gl20 := Gr.of0' gl20 g25
      refine rd_gn (rd_seq (rd_asg (rd_callS (rd_cons (rd_var rfl (rd_cons (rd_var rfl (rd_cons (rd_var rfl (rd_cons (rd_var rfl (rd_nil ⟨_, _, _, _, _, _, rfl, h27, h_m, (hTT.gr g0), wp_imp (wp_bind hm) (fun t29 hm v32 H30 g31 h33 => ?_) (fun _ e => XEr.sub g0 e)⟩))))))))))))
      have h_m := Imm.mono g31 h_m
      have h5 := Imm.mono g31 h5
      have h27 := Imm.mono g31 h27
      have g0 := g0.of0' g31
      have gl20 := gl20.of0' g31
      refine rd_gn ?_
      refine rd_nx ?_
      refine rd_if (rd_T (rd_op (rd_cb (rd_cons (rd_callS (rd_cons (rd_var rfl (rd_cons (rd_call (rd_cons (rd_var rfl (rd_cons (rd_var rfl (rd_cons (rd_var rfl (rd_nil ⟨_, _, _, _, _, rfl, h33, h5, wp_imp (wp_bindN hm) (fun t34 hm v37 H35 g36 h38 => ?_) (fun _ e => e)⟩))))))))))))))))
      have h_m := Imm.mono g36 h_m
      have h5 := Imm.mono g36 h5
      have h33 := Imm.mono g36 h33
      have g0 := g0.of0' g36
      have gl20 := gl20.of0' g36
      refine rd_cons (rd_var rfl (rd_nil ⟨_, _, _, _, _, rfl, h_m, h38, wp_imp (wp_bind hm) (fun t39 hm v42 H40 g41 h43 => ?_) (fun _ e => XEr.sub g0 e)⟩))
      have h_m := Imm.mono g41 h_m
      have h5 := Imm.mono g41 h5
      have h33 := Imm.mono g41 h33
      have g0 := g0.of0' g41
      have gl20 := gl20.of0' g41
      refine rd_nil (len_T h43 (rd_c (rd_rI0 (rd_kB ?_))))
      refine iteB (fun e44 => ?_) (fun e44 => ?_)
      · have hm := ifT e44 (wp_iteB hm)
        exact rd_ret (rd_c (hm _ g0))
      have hm := ifF e44 (wp_iteB hm)
      exact rd_next (hm _ _ ⟨_, _, rfl, gl20, h33⟩)
    obtain ⟨w46, o48, rfl, g45, h47⟩ := hr11
    have h_m := Imm.mono g45 h_m
    have h5 := Imm.mono g45 h5
    have g0 := Gr.of0' g0 g45
    exact rd_ret (rd_c (hm _ g0))

abbrev s_check_making : Stmt := topS 30
abbrev n_check_making : List Str := ["p", "modulus", "item"]
theorem sc_check_making : FnScope n_check_making ["p", "modulus"] (defScope s_check_making) := ⟨rfl, rfl, rfl, by decide +kernel, rfl, by decide +kernel, by decide +kernel⟩
def m_check_making_b1 (a_p : Int) (s32 : List Bool) (x33 : Int) : R (List Bool) :=
  (andR ((noEr (m_is_integer (V.int x33))).bind fun t47 => R.ok t47) (R.ok ((decide ((0 : Int) ≤ x33)) && (decide (x33 < a_p))))).bind fun t53 => grd (lenLt s32) <| R.ok (s32 ++ [t53])
def m_check_making (a_p : Int) (a_modulus : (List Int)) : R Unit :=
  (orR ((noEr (m_is_integer (V.int a_p))).bind fun t3 => R.ok (!t3)) ((noEr (m_is_prime a_p)).bind fun t9 => R.ok (!t9))).bind fun t12 => if t12 = true then (R.er .mal) else (if (!(true || false)) = true then (R.er .mal) else ((foldR (m_check_making_b1 a_p) ([]) a_modulus).bind fun s39 => if (!((s39).all id)) = true then (R.er .mal) else ((orR (R.ok (decide (((a_modulus).length : Int) < (2 : Int)))) ((getL a_modulus (-(1 : Int))).bind fun t69 => R.ok (!decide (t69 = (1 : Int))))).bind fun t72 => if t72 = true then (R.er .mal) else ((noEr (m_power_within a_p (((a_modulus).length : Int) - (1 : Int)) (400 : Int))).bind fun t76 => if (t76).isNone = true then R.out else ((m_is_irreducible_row a_modulus a_p).bind fun t82 => if (!t82) = true then (R.er .mal) else (R.ok ()))))))
def sp_check_making (K : PySem.W.Frag) (C : Xc) (TT : List Addr) : Sp := fun vs H Q E => ∃ (a_p : Int) (a_modulus : (List Int)) (v_modulus : V), vs = [(.int a_p), v_modulus] ∧ (rT K rI) H a_modulus v_modulus ∧ TabsA TT H ∧ wp (m_check_making a_p a_modulus) (fun r => ∀ H', Gr [] H H' → Q .non H') (XEr C [] H E)
theorem ok_check_making {P : Program} {w : World} {K : PySem.W.Frag} {mg : Str → Option Value} {base : Heap} {f : Addr} {fd : FuncData} {c_fault c_zd c_mal c_refu : Addr} {TT : List Addr} {tk_MOST_MEMBERS : Tok} (F : Fun K "check_making" "check_making" s_check_making f fd) (z_isinstance : mg "isinstance" = none) (z_tuple : mg "tuple" = none) (z_list : mg "list" = none) (z_all : mg "all" = none) (z_len : mg "len" = none) (Xk_mal : Xk K mg "Malformed" c_mal) (gk_MOST_MEMBERS : mg "MOST_MEMBERS" = some (.int 400 tk_MOST_MEMBERS)) (c_is_integer : Cal P w K mg base CX0 1 "is_integer" ["value"] (sp_is_integer K)) (c_is_prime : Cal P w K mg base CX0 2 "is_prime" ["n"] (sp_is_prime K)) (c_power_within : Cal P w K mg base CX0 1 "power_within" ["a", "k", "limit"] (sp_power_within K)) (c_is_irreducible_row : Cal P w K mg base (CX P w) 7 "is_irreducible_row" ["m", "p"] (sp_is_irreducible_row K (⟨some c_fault, some c_zd, some c_mal, some c_refu, none⟩ : Xc) TT)) : FnOk P w K mg base (CX P w) 8 f fd ["p", "modulus"] (sp_check_making K (⟨some c_fault, some c_zd, some c_mal, some c_refu, none⟩ : Xc) TT) := by
  obtain ⟨f_is_integer, fd_is_integer, G_is_integer, g_is_integer, k_is_integer, b_is_integer⟩ := c_is_integer
  obtain ⟨f_is_prime, fd_is_prime, G_is_prime, g_is_prime, k_is_prime, b_is_prime⟩ := c_is_prime
  obtain ⟨f_power_within, fd_power_within, G_power_within, g_power_within, k_power_within, b_power_within⟩ := c_power_within
  obtain ⟨f_is_irreducible_row, fd_is_irreducible_row, G_is_irreducible_row, g_is_irreducible_row, k_is_irreducible_row, b_is_irreducible_row⟩ := c_is_irreducible_row
  refine F.okX sc_check_making (fun vs H Q E h => ?_) (fun cdv A outer s H0 vs Q E hr h => ?_)
  · obtain ⟨a_p, a_modulus, v_modulus, rfl, h_modulus, hTT, hm⟩ := h
    rfl
  · obtain ⟨a_p, a_modulus, v_modulus, rfl, h_modulus, hTT, hm⟩ := h
    have hm : wp (m_check_making a_p a_modulus) _ _ := hm
    unfold m_check_making at hm
    refine ⟨_, (pss_cons (ps_if (PW.pt (pw_or (pt_not (pt_val (pe_call G_is_integer (hr.mono (by decide)) (by rfl) g_is_integer k_is_integer b_is_integer .nil pass0 (pa_cons (pv 0) pa_nil)))) (pw_or1 (pt_not (pt_val (pe_call G_is_prime (hr.mono (by decide)) (by rfl) g_is_prime k_is_prime b_is_prime .nil pass0 (pa_cons (pv 0) pa_nil))))))) (pss_one (ps_raise rfl (takes_of rfl rfl rfl rfl) (pmk_own PySem.F.excBase_ValueError Xk_mal.x Xk_mal.g Xk_mal.k (raises_own Xk_mal.b Xk_mal.t) (by rfl)))) pss_nil) (pss_cons (ps_if (pt_not (pt_val (pe_callB (isiTK (K := K) rfl) (by rfl) z_isinstance (by decide +kernel) (pa_cons (pv 1) (pa_cons (pe_tup (pa_cons (pe_bltn (by rfl) z_tuple (by decide +kernel) (show L2.RelV (.ty "tuple") (.type "tuple") from rfl)) (pa_cons (pe_bltn (by rfl) z_list (by decide +kernel) (show L2.RelV (.ty "list") (.type "list") from rfl)) pa_nil))) pa_nil))))) (pss_one (ps_raise rfl (takes_of rfl rfl rfl rfl) (pmk_own PySem.F.excBase_ValueError Xk_mal.x Xk_mal.g Xk_mal.k (raises_own Xk_mal.b Xk_mal.t) (by rfl)))) pss_nil) (pss_cons (ps_if (pt_not (pt_val (pe_callB (allK (K := K) rfl rfl) (by rfl) z_all (by decide +kernel) (pa_cons (pe_lc (own := [("item", 2)]) (g := gName 2) (tt := tYes) rfl sc_check_making.nd (pi_tupK (K := K) (pv 1) rfl) (blkOk_by (own := [("item", 2)]) (N := n_check_making) (sc := defScope s_check_making) (by decide +kernel)) (fun _ _ _ _ _ => pg_name (i := 2) sc_check_making.nd rfl (Or.inl rfl)) (fun _ _ _ _ _ => pts_nil) (fun _ _ _ _ _ => (pe_and (pe_call G_is_integer (hr.mono (by decide)) (by rfl) g_is_integer k_is_integer b_is_integer .nil pass0 (pa_cons (pv 2) pa_nil)) (pe_one (pe_chain op_le op_lt pe_int (pv 2) (pv 0)))))) pa_nil)))) (pss_one (ps_raise rfl (takes_of rfl rfl rfl rfl) (pmk_own PySem.F.excBase_ValueError Xk_mal.x Xk_mal.g Xk_mal.k (raises_own Xk_mal.b Xk_mal.t) (by rfl)))) pss_nil) (pss_cons (ps_if (PW.pt (pw_or (pt_cmpR op_lt (pe_callB (lenK (K := K) rfl) (by rfl) z_len PySem.boot_len (pa_cons (pv 1) pa_nil)) pe_int (nomark _)) (pw_or1 (pt_cmpR op_neI (pe_ix (ix_tupK (K := K) rfl) (pv 1) (pe_un un_neg pe_int) (fun _ _ => rfl)) pe_int (nomark _))))) (pss_one (ps_raise rfl (takes_of rfl rfl rfl rfl) (pmk_own PySem.F.excBase_ValueError Xk_mal.x Xk_mal.g Xk_mal.k (raises_own Xk_mal.b Xk_mal.t) (by rfl)))) pss_nil) (pss_cons (ps_if (pt_cmpR op_isN' (pe_call G_power_within (hr.mono (by decide)) (by rfl) g_power_within k_power_within b_power_within .nil pass0 (pa_cons (pv 0) (pa_cons (pe_op op_sub (pe_callB (lenK (K := K) rfl) (by rfl) z_len PySem.boot_len (pa_cons (pv 1) pa_nil)) pe_int) (pa_cons (pe_glob (v := .int 400) (by rfl) gk_MOST_MEMBERS ⟨_, rfl⟩) pa_nil)))) pe_non (nomark _)) (pss_one ps_never) pss_nil) (pss_one (ps_if (pt_not (pt_val (pe_callS G_is_irreducible_row (hr.mono (by decide)) (by rfl) g_is_irreducible_row k_is_irreducible_row b_is_irreducible_row (fun σ => passAt (takes_of rfl rfl rfl rfl) σ) (pa_cons (pe_callTy (tupleK (K := K) rfl) (by rfl) z_tuple (by decide +kernel) (pa_cons (pv 1) pa_nil)) (pa_cons (pv 0) pa_nil))))) (pss_one (ps_raise rfl (takes_of rfl rfl rfl rfl) (pmk_own PySem.F.excBase_ValueError Xk_mal.x Xk_mal.g Xk_mal.k (raises_own Xk_mal.b Xk_mal.t) (by rfl)))) pss_nil))))))), ?_⟩
    have g0 := Gr.refl (A := []) H0
    refine rd_seq (rd_if ((ev_or (fun Q hm => by
        have gb1 := Gr.refl (A := []) H0
        have h2 := (rfl : rA H0 (V.int a_p) (V.int a_p))
        refine rd_not (rd_B (rd_call (rd_cons (rd_var rfl (rd_nil ⟨_, rfl, wp_imp (wp_bindN hm) (fun t3 hm H4 g5 => ?_) (fun _ e => e)⟩)))))
        have h_modulus := Imm.mono g5 h_modulus
        have g0 := g0.of0' g5
        have gb1 := gb1.of0' g5
        exact rd_kB (hm _ gb1)) (fun H6 g7 Q hm => by
        have h_modulus := Imm.mono g7 h_modulus
        have g0 := g0.of0' g7
        have gb8 := Gr.refl (A := []) H6
        refine rd_not (rd_B (rd_call (rd_cons (rd_var rfl (rd_nil ⟨_, rfl, wp_imp (wp_bindN hm) (fun t9 hm H10 g11 => ?_) (fun _ e => e)⟩)))))
        have h_modulus := Imm.mono g11 h_modulus
        have g0 := g0.of0' g11
        have gb8 := gb8.of0' g11
        exact rd_kB (hm _ gb8))) _ (wp_imp (wp_bind hm) (fun t12 hm H13 g14 => ?_) (fun _ e => e))))
    have h_modulus := Imm.mono g14 h_modulus
    have g0 := g0.of0' g14
    refine iteB (fun e15 => ?_) (fun e15 => ?_)
    · have hm := ifT e15 (wp_iteB hm)
      exact xe0_at hm rfl g0
    have hm := ifF e15 (wp_iteB hm)
    refine rd_next (rd_nx ?_)
    refine rd_seq (rd_if (rd_not (rd_B (rd_cb (rd_cons (rd_var rfl (rd_cons (rd_tup (rd_cons (rd_c (rd_cons (rd_c (rd_nil (mk_X (by show 2 ≤ sizeLine; decide) fun p16 H17 g18 h19 => ?_))))))))))))))
    have h_modulus := Imm.mono g18 h_modulus
    have g0 := g0.of0' g18
    refine rd_nil (isi_2 (S := "tuple") (b1 := true) (b2 := false) h19 (ty_T h_modulus) (by decide +kernel) (by decide +kernel) (rd_kB ?_))
    refine iteB (fun e20 => ?_) (fun e20 => ?_)
    · have hm := ifT e20 (wp_iteB hm)
      exact xe0_at hm rfl g0
    have hm := ifF e20 (wp_iteB hm)
    refine rd_next (rd_nx ?_)
    obtain ⟨a24, ea25, vs21, hl22, hp23⟩ := id h_modulus
    refine rd_seq (rd_if (rd_not (rd_B (rd_cb (rd_cons (rd_lc (rd_it (rd_var rfl ⟨_, ea25, ⟨_, hl22⟩, fun p26 n27 => ?_⟩))))))))
    have nw28 := Gr.free g0 n27
    refine lc_tup (r := rI) (H1 := H17) (fun (s : List Bool) (H : Hp) => Gr [] H17 H ∧ Ls rB H p26 s) hp23 (wp_bind hm) ⟨Gr.new n27, ⟨[], upd_same, .nil⟩⟩ (fun _ _ hr => by obtain ⟨g, _⟩ := hr; exact g.tup hl22) (fun x33 v34 s32 H36 N37 hx35 hr38 hm => ?_) (fun s39 H40 hr41 hm => ?_)
    · unfold m_check_making_b1 at hm
      obtain ⟨g42, h43⟩ := hr38
      have h_modulus := Imm.mono g42 h_modulus
      have g0 := Gr.of0' g0 g42
      have gl44 := g42
      obtain rfl := hx35
      refine rd_gn ⟨rfl, rd_yes (iteT ((ev_andV (fun Q hm => by
          have gb45 := Gr.refl (A := []) H36
          have h46 := (rfl : rA H36 (V.int x33) (V.int x33))
          refine rd_call (rd_cons (rd_var rfl (rd_nil ⟨_, rfl, wp_imp (wp_bindN hm) (fun t47 hm H48 g49 => ?_) (fun _ e => e)⟩)))
          have h_modulus := Imm.mono g49 h_modulus
          have h43 := Ls.g0 g49 h43
          have g0 := g0.of0' g49
          have gl44 := gl44.of0' g49
          have gb45 := gb45.of0' g49
          exact hm _ _ gb45 rfl) (fun H50 g51 Q hm => by
          have h_modulus := Imm.mono g51 h_modulus
          have h43 := Ls.g0 g51 h43
          have g0 := g0.of0' g51
          have gl44 := gl44.of0' g51
          have gb52 := Gr.refl (A := []) H50
          exact chain_I (fun _ q => rd_c (q)) (fun _ q => rd_var rfl (q)) (fun _ q => rd_var rfl (q)) (hm _ _ gb52 rfl))) _ (wp_imp (wp_bind hm) (fun t53 hm v56 H54 g55 h57 => ?_) (fun _ e => e))))⟩
      obtain rfl := h57
      have h_modulus := Imm.mono g55 h_modulus
      have h43 := Ls.g0 g55 h43
      have g0 := g0.of0' g55
      have gl44 := gl44.of0' g55
      obtain ⟨c58, hm⟩ := wp_grd hm
      refine lc_add h43 rfl c58 fun H59 g60 h61 => ?_
      have h_modulus := Imm.mono g60 h_modulus
      have g0 := Gr.loc g0 nw28 g60
      have gl44 := Gr.loc gl44 n27 g60
      exact hm _ ⟨gl44, h61⟩
    obtain ⟨g62, h63⟩ := hr41
    have h_modulus := Imm.mono g62 h_modulus
    have g0 := Gr.of0' g0 g62
    refine rd_nil (all_L (Ls.q h63) (rd_kB ?_))
    refine iteB (fun e64 => ?_) (fun e64 => ?_)
    · have hm := ifT e64 (wp_iteB hm)
      exact xe0_at hm rfl g0
    have hm := ifF e64 (wp_iteB hm)
    refine rd_next (rd_nx ?_)
    refine rd_seq (rd_if ((ev_or (fun Q hm => by
        have gb65 := Gr.refl (A := []) H40
        exact rd_T (rd_op (rd_cb (rd_cons (rd_var rfl (rd_nil (len_T h_modulus (rd_c (rd_rI0 (rd_kB (hm _ gb65))))))))))) (fun H66 g67 Q hm => by
        have h_modulus := Imm.mono g67 h_modulus
        have g0 := g0.of0' g67
        have gb68 := Gr.refl (A := []) H66
        refine rd_T (rd_op (rd_op (rd_var rfl (rd_un (rd_c (rd_rU (ix_T h_modulus (wp_bind hm) fun t69 v70 h71 hm => ?_)))))))
        obtain rfl := h71
        exact rd_c (rd_rI0 (rd_kB (hm _ gb68))))) _ (wp_imp (wp_bind hm) (fun t72 hm H73 g74 => ?_) (fun _ e => e))))
    have h_modulus := Imm.mono g74 h_modulus
    have g0 := g0.of0' g74
    refine iteB (fun e75 => ?_) (fun e75 => ?_)
    · have hm := ifT e75 (wp_iteB hm)
      exact xe0_at hm rfl g0
    have hm := ifF e75 (wp_iteB hm)
    refine rd_next (rd_nx ?_)
    refine rd_seq (rd_if (rd_T (rd_op (rd_call (rd_cons (rd_var rfl (rd_cons (rd_op (rd_cb (rd_cons (rd_var rfl (rd_nil (len_T h_modulus (rd_c (rd_rI0 (rd_cons (rd_c (rd_nil ⟨_, _, _, rfl, wp_imp (wp_bindN hm) (fun t76 hm v79 H77 g78 h80 => ?_) (fun _ e => e)⟩))))))))))))))))))
    have h_modulus := Imm.mono g78 h_modulus
    have g0 := g0.of0' g78
    refine rd_c (isN_opt h80 (rd_kB ?_))
    refine iteB (fun e81 => ?_) (fun e81 => ?_)
    · have hm := ifT e81 (wp_iteB hm)
      exact (show False from hm).elim
    have hm := ifF e81 (wp_iteB hm)
    refine rd_next (rd_nx ?_)
    refine rd_if (rd_not (rd_B (rd_callS (rd_cons (rd_cb (rd_cons (rd_var rfl (rd_nil (tup_of_T h_modulus (rd_cons (rd_var rfl (rd_nil ⟨_, _, _, rfl, h_modulus, (hTT.gr g0), wp_imp (wp_bind hm) (fun t82 hm H83 g84 => ?_) (fun _ e => XEr.sub g0 e)⟩))))))))))))
    have h_modulus := Imm.mono g84 h_modulus
    have g0 := g0.of0' g84
    refine rd_kB ?_
    refine iteB (fun e85 => ?_) (fun e85 => ?_)
    · have hm := ifT e85 (wp_iteB hm)
      exact xe0_at hm rfl g0
    have hm := ifF e85 (wp_iteB hm)
    exact rd_next (hm _ g0)

abbrev s_digits : Stmt := topS 13
abbrev n_digits : List Str := ["number", "base", "count", "found", "rest", "_"]
theorem sc_digits : FnScope n_digits ["number", "base", "count"] (defScope s_digits) := ⟨rfl, rfl, rfl, by decide +kernel, rfl, by decide +kernel, by decide +kernel⟩
def m_digits_b1 (a_base : Int) (s15 : (List Int) × Int) (x21 : Int) : R ((List Int) × Int) :=
  grd (0 < a_base) <| grd (lenLt s15.1) <| grd (CDiv s15.2 a_base) <| R.ok ((s15.1 ++ [(s15.2 % a_base)]), (s15.2 / a_base))
def m_digits (a_number : Int) (a_base : Int) (a_count : Int) : R (List Int) :=
  (grd (rgOk a_count) <| foldR (m_digits_b1 a_base) (([] : List Int), a_number) (rng 0 (a_count).toNat)).bind fun s10 => R.ok s10.1
def sp_digits (K : PySem.W.Frag) : Sp := fun vs H Q _ => ∃ (a_number : Int) (a_base : Int) (a_count : Int), vs = [(.int a_number), (.int a_base), (.int a_count)] ∧ wp (m_digits a_number a_base a_count) (fun r => ∀ v H', Gr [] H H' → (rT K rI) H' r v → Q v H') (fun _ => False)
theorem ok_digits {P : Program} {w : World} {K : PySem.W.Frag} {mg : Str → Option Value} {base : Heap} {f : Addr} {fd : FuncData} (F : Fun K "digits" "digits" s_digits f fd) (z_range : mg "range" = none) (z_tuple : mg "tuple" = none) : FnOk P w K mg base CX0 1 f fd ["number", "base", "count"] (sp_digits K) := by
  refine F.ok sc_digits (fun vs H Q E h => ?_) (fun cdv A outer s H0 vs Q E hr h => ?_)
  · obtain ⟨a_number, a_base, a_count, rfl, hm⟩ := h
    rfl
  · obtain ⟨a_number, a_base, a_count, rfl, hm⟩ := h
    have hm : wp (m_digits a_number a_base a_count) _ _ := hm
    unfold m_digits at hm
    refine ⟨_, (pss_cons (ps_set (i := 3) sc_digits.nd rfl (Or.inl rfl) (pe_lst pa_nil)) (pss_cons (ps_set (i := 4) sc_digits.nd rfl (Or.inl rfl) (pv 0)) (pss_cons (ps_for PassesOwn.never rfl (pi_range1 (by rfl) z_range (pa_cons (pv 2) pa_nil)) (pg_name (i := 5) sc_digits.nd rfl (Or.inl rfl)) (pss_cons (ps_expr (pe_bm PySem.F.plainAttrs_list PySem.F.slot_list_append PySem.F.type_list_append mt_append (pv 3) (pa_cons (pe_op op_mod (pv 4) (pv 1)) pa_nil))) (pss_one (ps_set (i := 4) sc_digits.nd rfl (Or.inl rfl) (pe_op op_fdiv (pv 4) (pv 1)))))) (pss_one (ps_ret (pe_callTy (tupleK (K := K) rfl) (by rfl) z_tuple (by decide +kernel) (pa_cons (pv 3) pa_nil))))))), ?_⟩
    have g0 := Gr.refl (A := []) H0
    refine rd_seq (rd_asg (rd_lst (rd_nil (mk_L (r := rI) (xs := ([] : List Int)) .nil (by show 0 ≤ sizeLine; decide) fun p1 H2 n3 g4 h5 => ?_))))
    have nw6 := Gr.free g0 n3
    have g0 := g0.of0' g4
    refine rd_gn ?_
    refine rd_nx ?_
    refine rd_seq (rd_asg (rd_var rfl (rd_gn ?_)))
    refine rd_nx ?_
    refine seq_join (t := tFor _ _ _) (wp_bind hm) (fun (s : (List Int) × Int) (σ : L2.St) (H : Hp) => ∃ (o14 : Option V), σ = [some (.int a_number), some (.int a_base), some (.int a_count), some (.ref p1), some (.int s.2), o14] ∧ Gr [p1] H2 H ∧ Ls rI H p1 s.1) (fun N8 hN9 hm => ?_) (fun s10 σ H11 hr12 hm => ?_)
    · have gl13 := Gr.refl (A := [p1]) H2
      obtain ⟨c19, hm⟩ := wp_grd hm
      have gl20 := Gr.refl (A := [p1]) H2
      refine rd_for (rd_r1 (rd_cons (rd_var rfl (rd_nil ⟨_, rfl, c19.1, c19.2, for_rngR (lo := 0) (n := (a_count).toNat) (fun (s : (List Int) × Int) (σ : L2.St) (H : Hp) => ∃ (o14 : Option V), σ = [some (.int a_number), some (.int a_base), some (.int a_count), some (.ref p1), some (.int s.2), o14] ∧ Gr [p1] H2 H ∧ Ls rI H p1 s.1) (by exact wp_N hm (fun s σ' H' hr hz => hN9 s σ' H' hr hz)) ⟨_, rfl, gl20, h5⟩ (fun x21 s15 σ H16 N18 hr17 hm => ?_)⟩))))
      unfold m_digits_b1 at hm
      obtain ⟨o27, rfl, g25, h26⟩ := hr17
      have g0 := Gr.many g0 (all1 ((.inr nw6)) all0) g25
      have gl20 := Gr.many gl20 (all1 ((.inl (by simp))) all0) g25
      obtain ⟨c28, hm⟩ := wp_grd hm
      obtain ⟨c29, hm⟩ := wp_grd hm
      refine rd_gn (rd_seq (rd_drop (rd_bm (rd_var rfl ⟨(Ls.ty h26), rd_cons (rd_op (rd_var rfl (rd_var rfl (rd_rI c28 (rd_nil (rd_append h26 rfl c29 fun H30 g31 h32 => ?_))))))⟩))))
      have g0 := Gr.loc g0 nw6 g31
      have gl20 := Gr.at1 gl20 (by simp) g31
      refine rd_nx ?_
      obtain ⟨c33, hm⟩ := wp_grd hm
      refine rd_asg (rd_op (rd_var rfl (rd_var rfl (rd_rI c33 (rd_gn ?_)))))
      exact hm _ _ ⟨_, rfl, gl20, h32⟩
    obtain ⟨o36, rfl, g34, h35⟩ := hr12
    have g0 := Gr.many g0 (all1 ((.inr nw6)) all0) g34
    refine rd_ret (rd_cb (rd_cons (rd_var rfl (rd_nil (tup_of_L (K := K) (Ls.q h35) fun v37 H38 g39 h40 => ?_)))))
    have h35 := Ls.g0 g39 h35
    have g0 := g0.of0' g39
    exact hm _ _ g0 h40

abbrev s_trimmed_2 : Stmt := topS 18
abbrev n_trimmed_2 : List Str := ["row", "p", "item"]
theorem sc_trimmed_2 : FnScope n_trimmed_2 ["row", "p"] (defScope s_trimmed_2) := ⟨rfl, rfl, rfl, by decide +kernel, rfl, by decide +kernel, by decide +kernel⟩
def m_trimmed_2_b1 (a_p : Int) (s12 : List Int) (x13 : Int) : R (List Int) :=
  grd (0 < a_p) <| grd (lenLt s12) <| R.ok (s12 ++ [(x13 % a_p)])
def m_trimmed_2 (a_row : (List Int)) (a_p : Int) : R (List Int) :=
  (foldR (m_trimmed_2_b1 a_p) ([]) a_row).bind fun s19 => (m_without_end s19 (0 : Int)).bind fun t32 => R.ok t32
def sp_trimmed_2 (K : PySem.W.Frag) : Sp := fun vs H Q _ => ∃ (a_row : (List Int)) (v_row : V) (a_p : Int), vs = [v_row, (.int a_p)] ∧ (rT K rI) H a_row v_row ∧ wp (m_trimmed_2 a_row a_p) (fun r => ∀ v H', Gr [] H H' → (rT K rI) H' r v → Q v H') (fun _ => False)
theorem ok_trimmed_2 {P : Program} {w : World} {K : PySem.W.Frag} {mg : Str → Option Value} {base : Heap} {f : Addr} {fd : FuncData} (F : Fun K "trimmed" "trimmed" s_trimmed_2 f fd) (c_without_end : Cal P w K mg base CX0 1 "without_end" ["items", "zero"] (sp_without_end K)) : FnOk P w K mg base CX0 2 f fd ["row", "p"] (sp_trimmed_2 K) := by
  obtain ⟨f_without_end, fd_without_end, G_without_end, g_without_end, k_without_end, b_without_end⟩ := c_without_end
  refine F.ok sc_trimmed_2 (fun vs H Q E h => ?_) (fun cdv A outer s H0 vs Q E hr h => ?_)
  · obtain ⟨a_row, v_row, a_p, rfl, h_row, hm⟩ := h
    rfl
  · obtain ⟨a_row, v_row, a_p, rfl, h_row, hm⟩ := h
    have hm : wp (m_trimmed_2 a_row a_p) _ _ := hm
    unfold m_trimmed_2 at hm
    refine ⟨_, (pss_one (ps_ret (pe_call G_without_end (hr.mono (by decide)) (by rfl) g_without_end k_without_end b_without_end .nil pass0 (pa_cons (pe_lc (own := [("item", 2)]) (g := gName 2) (tt := tYes) rfl sc_trimmed_2.nd (pi_tupK (K := K) (pv 0) rfl) (blkOk_by (own := [("item", 2)]) (N := n_trimmed_2) (sc := defScope s_trimmed_2) (by decide +kernel)) (fun _ _ _ _ _ => pg_name (i := 2) sc_trimmed_2.nd rfl (Or.inl rfl)) (fun _ _ _ _ _ => pts_nil) (fun _ _ _ _ _ => (pe_op op_mod (pv 2) (pv 1)))) (pa_cons pe_int pa_nil))))), ?_⟩
    have g0 := Gr.refl (A := []) H0
    obtain ⟨a4, ea5, vs1, hl2, hp3⟩ := id h_row
    refine rd_ret (rd_call (rd_cons (rd_lc (rd_it (rd_var rfl ⟨_, ea5, ⟨_, hl2⟩, fun p6 n7 => ?_⟩)))))
    have nw8 := Gr.free g0 n7
    refine lc_tup (r := rI) (H1 := H0) (fun (s : List Int) (H : Hp) => Gr [] H0 H ∧ Ls rI H p6 s) hp3 (wp_bind hm) ⟨Gr.new n7, ⟨[], upd_same, .nil⟩⟩ (fun _ _ hr => by obtain ⟨g, _⟩ := hr; exact g.tup hl2) (fun x13 v14 s12 H16 N17 hx15 hr18 hm => ?_) (fun s19 H20 hr21 hm => ?_)
    · unfold m_trimmed_2_b1 at hm
      obtain ⟨g22, h23⟩ := hr18
      have h_row := Imm.mono g22 h_row
      have g0 := Gr.of0' g0 g22
      have gl24 := g22
      obtain rfl := hx15
      obtain ⟨c25, hm⟩ := wp_grd hm
      obtain ⟨c26, hm⟩ := wp_grd hm
      refine rd_gn ⟨rfl, rd_yes (iteT (rd_op (rd_var rfl (rd_var rfl (rd_rI c25 (lc_add h23 rfl c26 fun H27 g28 h29 => ?_))))))⟩
      have h_row := Imm.mono g28 h_row
      have g0 := Gr.loc g0 nw8 g28
      have gl24 := Gr.loc gl24 n7 g28
      exact hm _ ⟨gl24, h29⟩
    obtain ⟨g30, h31⟩ := hr21
    have h_row := Imm.mono g30 h_row
    have g0 := Gr.of0' g0 g30
    refine rd_cons (rd_c (rd_nil ⟨_, _, _, rfl, h31, wp_imp (wp_bind hm) (fun t32 hm v35 H33 g34 h36 => ?_) (fun _ e => e)⟩))
    have h_row := Imm.mono g34 h_row
    have g0 := g0.of0' g34
    exact hm _ _ g0 h36

abbrev s_powers_of : Stmt := topS 32
abbrev n_powers_of : List Str := ["a", "p", "modulus", "n", "shifted", "one", "powers", "power", "k", "x", "row"]
theorem sc_powers_of : FnScope n_powers_of ["a", "p", "modulus"] (defScope s_powers_of) := ⟨rfl, rfl, rfl, by decide +kernel, rfl, by decide +kernel, by decide +kernel⟩
def m_powers_of_b1 (a_a : (List Int)) (a_p : Int) (a_modulus : (List Int)) (s8 : List (List Int)) (x9 : Int) : R (List (List Int)) :=
  grd (([(0 : Int)]).isEmpty = false) <| grd (repOk ([(0 : Int)]) x9) <| grd (lenOk ((repL ([(0 : Int)]) x9) ++ a_a)) <| (noEr (m_trimmed_2 ((repL ([(0 : Int)]) x9) ++ a_a) a_p)).bind fun t36 => (noEr (m_divide_rows t36 a_modulus a_p)).bind fun t41 => (noEr (m_filled_up t41.2 (((a_modulus).length : Int) - (1 : Int)) (0 : Int))).bind fun t49 => grd (lenLt s8) <| R.ok (s8 ++ [t49])
def m_powers_of_b2 (t64 : (List Int)) (s84 : (List (List Int)) × (List Int)) : R Bool :=
  R.ok (!decide (s84.2 = t64))
def m_powers_of_b3 (x113 : Int) (s145 : List Int) (x146 : (Int × (List Int))) : R (List Int) :=
  (getL x146.2 x113).bind fun t167 => grd (CMul x146.1 t167) <| grd (lenLt s145) <| R.ok (s145 ++ [(x146.1 * t167)])
def m_powers_of_b4 (a_p : Int) (s15 : List (List Int)) (s84 : (List (List Int)) × (List Int)) (s112 : List Int) (x113 : Int) : R (List Int) :=
  (foldR (m_powers_of_b3 x113) ([]) (s84.2.zip s15)).bind fun s152 => grd (0 < a_p) <| grd (lenLt s112) <| R.ok (s112 ++ [(((s152).sum) % a_p)])
def m_powers_of_b5 (a_p : Int) (a_modulus : (List Int)) (s15 : List (List Int)) (s84 : (List (List Int)) × (List Int)) : R ((List (List Int)) × (List Int)) :=
  grd (lenLt s84.1) <| grd (rgOk (((a_modulus).length : Int) - (1 : Int))) <| (foldR (m_powers_of_b4 a_p s15 s84) ([]) (rng 0 ((((a_modulus).length : Int) - (1 : Int))).toNat)).bind fun s119 => R.ok ((s84.1 ++ [s84.2]), s119)
def m_powers_of (a_a : (List Int)) (a_p : Int) (a_modulus : (List Int)) : R (List (List Int)) :=
  grd (rgOk (((a_modulus).length : Int) - (1 : Int))) <| (foldR (m_powers_of_b1 a_a a_p a_modulus) ([]) (rng 0 ((((a_modulus).length : Int) - (1 : Int))).toNat)).bind fun s15 => (noEr (m_filled_up ([(1 : Int)]) (((a_modulus).length : Int) - (1 : Int)) (0 : Int))).bind fun t64 => (whileR (m_powers_of_b2 t64) (m_powers_of_b5 a_p a_modulus s15) 100000 ([t64], a_a)).bind fun s79 => R.ok s79.1
def sp_powers_of (K : PySem.W.Frag) (C : Xc) : Sp := fun vs H Q E => ∃ (a_a : (List Int)) (v_a : V) (a_p : Int) (a_modulus : (List Int)) (v_modulus : V), vs = [v_a, (.int a_p), v_modulus] ∧ (rT K rI) H a_a v_a ∧ (rT K rI) H a_modulus v_modulus ∧ wp (m_powers_of a_a a_p a_modulus) (fun r => ∀ v H', Gr [] H H' → (rT K (rT K rI)) H' r v → Q v H') (XEr C [] H E)
theorem ok_powers_of {P : Program} {w : World} {K : PySem.W.Frag} {mg : Str → Option Value} {base : Heap} {f : Addr} {fd : FuncData} {c_fault c_zd c_mal c_refu : Addr} (F : Fun K "powers_of" "powers_of" s_powers_of f fd) (z_len : mg "len" = none) (z_range : mg "range" = none) (z_zip : mg "zip" = none) (z_sum : mg "sum" = none) (z_tuple : mg "tuple" = none) (c_trimmed_2 : Cal P w K mg base CX0 2 "trimmed" ["row", "p"] (sp_trimmed_2 K)) (c_divide_rows : Cal P w K mg base (CX P w) 3 "divide_rows" ["a", "b", "p"] (sp_divide_rows K (⟨some c_fault, some c_zd, some c_mal, some c_refu, none⟩ : Xc))) (c_filled_up : Cal P w K mg base CX0 1 "filled_up" ["items", "length", "zero"] (sp_filled_up K)) : FnOk P w K mg base (CX P w) 4 f fd ["a", "p", "modulus"] (sp_powers_of K (⟨some c_fault, some c_zd, some c_mal, some c_refu, none⟩ : Xc)) := by
  obtain ⟨f_trimmed_2, fd_trimmed_2, G_trimmed_2, g_trimmed_2, k_trimmed_2, b_trimmed_2⟩ := c_trimmed_2
  obtain ⟨f_divide_rows, fd_divide_rows, G_divide_rows, g_divide_rows, k_divide_rows, b_divide_rows⟩ := c_divide_rows
  obtain ⟨f_filled_up, fd_filled_up, G_filled_up, g_filled_up, k_filled_up, b_filled_up⟩ := c_filled_up
  refine F.okX sc_powers_of (fun vs H Q E h => ?_) (fun cdv A outer s H0 vs Q E hr h => ?_)
  · obtain ⟨a_a, v_a, a_p, a_modulus, v_modulus, rfl, h_a, h_modulus, hm⟩ := h
    rfl
  · obtain ⟨a_a, v_a, a_p, a_modulus, v_modulus, rfl, h_a, h_modulus, hm⟩ := h
    have hm : wp (m_powers_of a_a a_p a_modulus) _ _ := hm
    unfold m_powers_of at hm
    refine ⟨_, (pss_cons (ps_set (i := 3) sc_powers_of.nd rfl (Or.inr rfl) (pe_op op_sub (pe_callB (lenK (K := K) rfl) (by rfl) z_len PySem.boot_len (pa_cons (pv 2) pa_nil)) pe_int)) (pss_cons (ps_set (i := 4) sc_powers_of.nd rfl (Or.inr rfl) (pe_lc (own := [("k", 8)]) (g := gName 8) (tt := tYes) rfl sc_powers_of.nd (pi_range1 (by rfl) z_range (pa_cons (pv 3) pa_nil)) (blkOk_by (own := [("k", 8)]) (N := n_powers_of) (sc := defScope s_powers_of) (by decide +kernel)) (fun _ _ _ _ _ => pg_name (i := 8) sc_powers_of.nd rfl (Or.inl rfl)) (fun _ _ _ _ _ => pts_nil) (fun _ _ _ _ _ => (pe_call G_filled_up (hr.mono (by decide)) (by rfl) g_filled_up k_filled_up b_filled_up .nil pass0 (pa_cons (pe_ix (ix_tupK (K := K) rfl) (pe_call G_divide_rows (hr.mono (by decide)) (by rfl) g_divide_rows k_divide_rows b_divide_rows .nil passL (pa_cons (pe_call G_trimmed_2 (hr.mono (by decide)) (by rfl) g_trimmed_2 k_trimmed_2 b_trimmed_2 .nil pass0 (pa_cons (pe_op (catAK (K := K) rfl) (pe_op (op_repA (K := K) rfl) (pe_tup (pa_cons pe_int pa_nil)) (pv 8)) (pv 0)) (pa_cons (pv 1) pa_nil))) (pa_cons (pv 2) (pa_cons (pv 1) pa_nil)))) pe_int (fun _ _ => rfl)) (pa_cons (pv 3) (pa_cons pe_int pa_nil))))))) (pss_cons (ps_set (i := 5) sc_powers_of.nd rfl (Or.inl rfl) (pe_call G_filled_up (hr.mono (by decide)) (by rfl) g_filled_up k_filled_up b_filled_up .nil pass0 (pa_cons (pe_tup (pa_cons pe_int pa_nil)) (pa_cons (pv 3) (pa_cons pe_int pa_nil))))) (pss_cons (ps_set (i := 6) sc_powers_of.nd rfl (Or.inl rfl) (pe_lst (pa_cons (pv 5) pa_nil))) (pss_cons (ps_set (i := 7) sc_powers_of.nd rfl (Or.inr rfl) (pv 0)) (pss_cons (ps_while PassesOwn.leaving (pt_cmpR (neDK (K := K) hr.units rfl) (pv 7) (pv 5) (nomark _)) (pss_cons (ps_expr (pe_bm PySem.F.plainAttrs_list PySem.F.slot_list_append PySem.F.type_list_append mt_append (pv 6) (pa_cons (pv 7) pa_nil))) (pss_one (ps_set (i := 7) sc_powers_of.nd rfl (Or.inr rfl) (pe_callTy (tupleK (K := K) rfl) (by rfl) z_tuple (by decide +kernel) (pa_cons (pe_lc (own := [("k", 8)]) (g := gName 8) (tt := tYes) rfl sc_powers_of.nd (pi_range1 (by rfl) z_range (pa_cons (pv 3) pa_nil)) (blkOk_by (own := [("k", 8)]) (N := n_powers_of) (sc := defScope s_powers_of) (by decide +kernel)) (fun _ _ _ _ _ => pg_name (i := 8) sc_powers_of.nd rfl (Or.inr rfl)) (fun _ _ _ _ _ => pts_nil) (fun _ _ _ _ _ => (pe_op op_mod (pe_callB (sumK (K := K) rfl rfl) (by rfl) z_sum (by decide +kernel) (pa_cons (pe_lc (own := [("x", 9), ("row", 10)]) (g := (gTup K 2 (gCons (gName 9) (gCons (gName 10) gNil)))) (tt := tYes) rfl sc_powers_of.nd (pi_zipTL (K := K) (by rfl) z_zip (pa_cons (pv 7) (pa_cons (pv 4) pa_nil)) rfl) (blkOk_by (by kernel_rfl)) (fun _ _ _ _ _ => pg_tup rfl (pgs_cons (pg_name (i := 9) sc_powers_of.nd rfl (Or.inl rfl) (Or.inr rfl)) (pgs_cons (pg_name (i := 10) sc_powers_of.nd rfl (Or.inl rfl) (Or.inr rfl)) pgs_nil))) (fun _ _ _ _ _ => pts_nil) (fun _ _ _ _ _ => (pe_op op_mul (pv 9) (pe_ix (ix_tupK (K := K) rfl) (pv 10) (pv 8) (fun _ _ => rfl))))) pa_nil)) (pv 1)))) pa_nil)))))) (pss_one (ps_ret (pe_callTy (tupleK (K := K) rfl) (by rfl) z_tuple (by decide +kernel) (pa_cons (pv 6) pa_nil)))))))))), ?_⟩
    have g0 := Gr.refl (A := []) H0
    refine rd_seq (rd_asg (rd_op (rd_cb (rd_cons (rd_var rfl (rd_nil (len_T h_modulus (rd_c (rd_rI0 (rd_gn ?_))))))))))
    refine rd_nx ?_
    obtain ⟨c1, hm⟩ := wp_grd hm
    refine rd_seq (rd_asg (rd_lc (rd_r1 (rd_cons (rd_var rfl (rd_nil ⟨_, rfl, c1.1, c1.2, fun p2 n3 => ?_⟩))))))
    have nw4 := Gr.free g0 n3
    refine lc_rng (lo := 0) (n := ((((a_modulus).length : Int) - (1 : Int))).toNat) (fun (s : List (List Int)) (H : Hp) => Gr [] H0 H ∧ Ls (rT K rI) H p2 s) (wp_bind hm) ⟨Gr.new n3, ⟨[], upd_same, .nil⟩⟩ (fun x9 s8 H12 N13 hr14 hm => ?_) (fun s15 H16 hr17 hm => ?_)
    · unfold m_powers_of_b1 at hm
      obtain ⟨g18, h19⟩ := hr14
      have h_a := Imm.mono g18 h_a
      have h_modulus := Imm.mono g18 h_modulus
      have g0 := Gr.of0' g0 g18
      have gl20 := g18
      refine rd_gn ⟨rfl, rd_yes (iteT (rd_call (rd_cons (rd_op (rd_call (rd_cons (rd_call (rd_cons (rd_op (rd_op (rd_tup (rd_cons (rd_c (rd_nil (mk_T (K := K) (r := rI) (xs := [(0 : Int)]) (.cons rfl .nil) (by show 1 ≤ sizeLine; decide) fun v21 H22 g23 h24 => ?_)))))))))))))))⟩
      have h_a := Imm.mono g23 h_a
      have h_modulus := Imm.mono g23 h_modulus
      have h19 := Ls.g0 g23 h19
      have g0 := g0.of0' g23
      have gl20 := gl20.of0' g23
      obtain ⟨c25, hm⟩ := wp_grd hm
      obtain ⟨c26, hm⟩ := wp_grd hm
      refine rd_var rfl (rep_T h24 c25 c26 fun v27 H28 g29 h30 => ?_)
      have h_a := Imm.mono g29 h_a
      have h_modulus := Imm.mono g29 h_modulus
      have h19 := Ls.g0 g29 h19
      have g0 := g0.of0' g29
      have gl20 := gl20.of0' g29
      obtain ⟨c31, hm⟩ := wp_grd hm
      refine rd_var rfl (cat_TA h30 h_a c31 fun v32 H33 g34 h35 => ?_)
      have h_a := Imm.mono g34 h_a
      have h_modulus := Imm.mono g34 h_modulus
      have h19 := Ls.g0 g34 h19
      have g0 := g0.of0' g34
      have gl20 := gl20.of0' g34
      refine rd_cons (rd_var rfl (rd_nil ⟨_, _, _, rfl, h35, wp_imp (wp_bindN hm) (fun t36 hm v39 H37 g38 h40 => ?_) (fun _ e => e)⟩))
      have h_a := Imm.mono g38 h_a
      have h_modulus := Imm.mono g38 h_modulus
      have h19 := Ls.g0 g38 h19
      have g0 := g0.of0' g38
      have gl20 := gl20.of0' g38
      refine rd_cons (rd_var rfl (rd_cons (rd_var rfl (rd_nil ⟨_, _, _, _, _, rfl, h40, h_modulus, wp_imp (wp_bindN hm) (fun t41 hm v44 H42 g43 h45 => ?_) (fun _ e => False.elim e)⟩))))
      have h_a := Imm.mono g43 h_a
      have h_modulus := Imm.mono g43 h_modulus
      have h19 := Ls.g0 g43 h19
      have g0 := g0.of0' g43
      have gl20 := gl20.of0' g43
      refine rd_c (ix_P21 h45 (by rfl) fun v47 h48 => ?_)
      refine rd_cons (rd_var rfl (rd_cons (rd_c (rd_nil ⟨_, _, _, _, rfl, h48, wp_imp (wp_bindN hm) (fun t49 hm v52 H50 g51 h53 => ?_) (fun _ e => e)⟩))))
      have h_a := Imm.mono g51 h_a
      have h_modulus := Imm.mono g51 h_modulus
      have h19 := Ls.g0 g51 h19
      have g0 := g0.of0' g51
      have gl20 := gl20.of0' g51
      obtain ⟨c54, hm⟩ := wp_grd hm
      refine lc_add h19 h53 c54 fun H55 g56 h57 => ?_
      have h_a := Imm.mono g56 h_a
      have h_modulus := Imm.mono g56 h_modulus
      have g0 := Gr.loc g0 nw4 g56
      have gl20 := Gr.loc gl20 n3 g56
      exact hm _ ⟨gl20, h57⟩
    obtain ⟨g58, h59⟩ := hr17
    have h_a := Imm.mono g58 h_a
    have h_modulus := Imm.mono g58 h_modulus
    have g0 := Gr.of0' g0 g58
    refine rd_gn ?_
    refine rd_nx ?_
    refine rd_seq (rd_asg (rd_call (rd_cons (rd_tup (rd_cons (rd_c (rd_nil (mk_T (K := K) (r := rI) (xs := [(1 : Int)]) (.cons rfl .nil) (by show 1 ≤ sizeLine; decide) fun v60 H61 g62 h63 => ?_))))))))
    have h_a := Imm.mono g62 h_a
    have h59 := Ls.g0 g62 h59
    have g0 := g0.of0' g62
    refine rd_cons (rd_var rfl (rd_cons (rd_c (rd_nil ⟨_, _, _, _, rfl, h63, wp_imp (wp_bindN hm) (fun t64 hm v67 H65 g66 h68 => ?_) (fun _ e => e)⟩))))
    have h_a := Imm.mono g66 h_a
    have h59 := Ls.g0 g66 h59
    have g0 := g0.of0' g66
    refine rd_gn ?_
    refine rd_nx ?_
    refine rd_seq (rd_asg (rd_lst (rd_cons (rd_var rfl (rd_nil (mk_L (r := (rT K rI)) (xs := [t64]) (.cons h68 .nil) (by show 1 ≤ sizeLine; decide) fun p69 H70 n71 g72 h73 => ?_))))))
    have ne74 : p2 ≠ p69 := Ls.ne h59 n71
    have nw75 := Gr.free g0 n71
    have h_a := Imm.mono g72 h_a
    have h59 := Ls.g0 g72 h59
    have h68 := Imm.mono g72 h68
    have g0 := g0.of0' g72
    refine rd_gn ?_
    refine rd_nx ?_
    refine rd_seq (rd_asg (rd_var rfl (rd_gn ?_)))
    refine rd_nx ?_
    refine seq_join (t := tWhile _ _) (wp_bind hm) (fun (s : (List (List Int)) × (List Int)) (σ : L2.St) (H : Hp) => ∃ (w83 : V), σ = [some v_a, some (.int a_p), some v_modulus, some (.int (((a_modulus).length : Int) - (1 : Int))), some (.ref p2), some v67, some (.ref p69), some w83, none, none, none] ∧ Gr [p69] H70 H ∧ Ls (rT K rI) H p69 s.1 ∧ (rT K rI) H s.2 w83) (fun N77 hN78 hm => ?_) (fun s79 σ H80 hr81 hm => ?_)
    · have gl82 := Gr.refl (A := [p69]) H70
      refine whl_R (fun (s : (List (List Int)) × (List Int)) (σ : L2.St) (H : Hp) => ∃ (w83 : V), σ = [some v_a, some (.int a_p), some v_modulus, some (.int (((a_modulus).length : Int) - (1 : Int))), some (.ref p2), some v67, some (.ref p69), some w83, none, none, none] ∧ Gr [p69] H70 H ∧ Ls (rT K rI) H p69 s.1 ∧ (rT K rI) H s.2 w83) (by exact wp_N hm (fun s σ' H' hr hz => hN78 s σ' H' hr hz)) ⟨_, rfl, gl82, h73, h_a⟩ (fun s84 σ H85 N87 W88 m89 hW90 hr86 hm => ?_)
      unfold m_powers_of_b2 at hm
      obtain ⟨w95, rfl, g93, h94, h96⟩ := hr86
      have h59 := Ls.gA g93 (nin1 ne74 nin0) h59
      have h68 := Imm.mono g93 h68
      have g0 := Gr.many g0 (all1 ((.inr nw75)) all0) g93
      have gl82 := Gr.many gl82 (all1 ((.inl (by simp))) all0) g93
      refine rd_T (rd_op (rd_var rfl (rd_var rfl (ne_D (DRep.tup (DRep.int K)) h96 h68 (rd_kB ?_)))))
      refine iteB' (fun e97 => ?_) (fun e97 => ?_)
      · exact ifF e97 hm _ _ ⟨_, rfl, gl82, h94, h96⟩
      have hm := ifT e97 hm
      unfold m_powers_of_b5 at hm
      refine ⟨N87, hW90, ?_⟩
      obtain ⟨c98, hm⟩ := wp_grd hm
      refine rd_seq (rd_drop (rd_bm (rd_var rfl ⟨(Ls.ty h94), rd_cons (rd_var rfl (rd_nil (rd_append h94 h96 c98 fun H99 g100 h101 => ?_)))⟩)))
      have h59 := Ls.g1 g100 ne74 h59
      have h68 := Imm.mono g100 h68
      have h96 := Imm.mono g100 h96
      have g0 := Gr.loc g0 nw75 g100
      have gl82 := Gr.at1 gl82 (by simp) g100
      refine rd_nx ?_
      obtain ⟨c102, hm⟩ := wp_grd hm
      refine rd_asg (rd_cb (rd_cons (rd_lc (rd_r1 (rd_cons (rd_var rfl (rd_nil ⟨_, rfl, c102.1, c102.2, fun p103 n104 => ?_⟩)))))))
      have ne105 : p2 ≠ p103 := Ls.ne h59 n104
      have ne106 : p69 ≠ p103 := Ls.ne h101 n104
      have nw107 := Gr.free g0 n104
      have nw108 := Gr.free gl82 n104
      refine lc_rng (lo := 0) (n := ((((a_modulus).length : Int) - (1 : Int))).toNat) (fun (s : List Int) (H : Hp) => Gr [] H99 H ∧ Ls rI H p103 s) (wp_bind hm) ⟨Gr.new n104, ⟨[], upd_same, .nil⟩⟩ (fun x113 s112 H116 N117 hr118 hm => ?_) (fun s119 H120 hr121 hm => ?_)
      · unfold m_powers_of_b4 at hm
        obtain ⟨g122, h123⟩ := hr118
        have h59 := Ls.gA g122 nin0 h59
        have h68 := Imm.mono g122 h68
        have h101 := Ls.gA g122 nin0 h101
        have h96 := Imm.mono g122 h96
        have g0 := Gr.of0' g0 g122
        have gl82 := Gr.of0' gl82 g122
        have gl124 := g122
        obtain ⟨a125, ea129, vs126, hl127, hp128⟩ := id h96
        obtain ⟨vs131, hl132, hp133⟩ := id (Ls.q h59)
        refine rd_gn ⟨rfl, rd_yes (iteT (rd_op (rd_cb (rd_cons (rd_lc (rd_izipTL (rd_cons (rd_var rfl (rd_cons (rd_var rfl (rd_nil (zip_tl ea129 rfl hl127 hl132 (fun p134 n135 => ?_)))))))))))))⟩
        have ne136 : p2 ≠ p134 := Ls.ne h59 n135
        have ne137 : p69 ≠ p134 := Ls.ne h101 n135
        have ne138 : p103 ≠ p134 := Ls.ne h123 n135
        have nw139 := Gr.free g0 n135
        have nw140 := Gr.free gl82 n135
        have nw141 := Gr.free gl124 n135
        refine lc_R (r := (rP K rI (rT K rI))) (H0 := H116) (H1 := H116) (wk_zipTL hp128 hp133) (fun (s : List Int) (H : Hp) => Gr [] H116 H ∧ Ls rI H p134 s) (wp_bind hm) ⟨Gr.new n135, ⟨[], upd_same, .nil⟩⟩ (fun _ _ hr => by obtain ⟨g, _⟩ := hr; exact ⟨⟨g.tup hl127, g.lst nin0 hl132⟩, _, g⟩) (fun x146 v147 s145 H149 H155 N150 hr151 hg156 hx148 hm => ?_) (fun s152 H153 hr154 hm => ?_)
        · unfold m_powers_of_b3 at hm
          obtain ⟨g157, h158⟩ := hr151
          have h59 := Ls.gA g157 nin0 h59
          have h68 := Imm.mono g157 h68
          have h101 := Ls.gA g157 nin0 h101
          have h96 := Imm.mono g157 h96
          have h123 := Ls.gA g157 nin0 h123
          have g0 := Gr.of0' g0 g157
          have gl82 := Gr.of0' gl82 g157
          have gl124 := Gr.of0' gl124 g157
          have gl159 := g157
          have h59 := Ls.g0 hg156 h59
          have h68 := Imm.mono hg156 h68
          have h101 := Ls.g0 hg156 h101
          have h96 := Imm.mono hg156 h96
          have h123 := Ls.g0 hg156 h123
          have h158 := Ls.g0 hg156 h158
          have g0 := g0.of0' hg156
          have gl82 := gl82.of0' hg156
          have gl124 := gl124.of0' hg156
          have gl159 := gl159.of0' hg156
          obtain ⟨a160, x161, x162, ea166, h163, h164, h165⟩ := id hx148
          obtain rfl := h164
          refine rd_gtE ea166 h163 rfl (rd_gc (rd_gn (rd_gc (rd_gn (rd_g0 ⟨rfl, rd_yes (iteT (rd_op (rd_var rfl (rd_op (rd_var rfl (rd_var rfl (ix_T h165 (wp_bind hm) fun t167 v168 h169 hm => ?_)))))))⟩)))))
          obtain rfl := h169
          obtain ⟨c170, hm⟩ := wp_grd hm
          obtain ⟨c171, hm⟩ := wp_grd hm
          refine rd_rI (c170) (lc_add h158 rfl c171 fun H172 g173 h174 => ?_)
          have h59 := Ls.g1 g173 ne136 h59
          have h68 := Imm.mono g173 h68
          have h101 := Ls.g1 g173 ne137 h101
          have h96 := Imm.mono g173 h96
          have h165 := Imm.mono g173 h165
          have h123 := Ls.g1 g173 ne138 h123
          have g0 := Gr.loc g0 nw139 g173
          have gl82 := Gr.loc gl82 nw140 g173
          have gl124 := Gr.loc gl124 nw141 g173
          have gl159 := Gr.loc gl159 n135 g173
          exact hm _ ⟨gl159, h174⟩
        obtain ⟨g175, h176⟩ := hr154
        have h59 := Ls.gA g175 nin0 h59
        have h68 := Imm.mono g175 h68
        have h101 := Ls.gA g175 nin0 h101
        have h96 := Imm.mono g175 h96
        have h123 := Ls.gA g175 nin0 h123
        have g0 := Gr.of0' g0 g175
        have gl82 := Gr.of0' gl82 g175
        have gl124 := Gr.of0' gl124 g175
        obtain ⟨c177, hm⟩ := wp_grd hm
        obtain ⟨c178, hm⟩ := wp_grd hm
        refine rd_nil (sum_L (Ls.q h176) (rd_var rfl (rd_rI c177 (lc_add h123 rfl c178 fun H179 g180 h181 => ?_))))
        have h59 := Ls.g1 g180 ne105 h59
        have h68 := Imm.mono g180 h68
        have h101 := Ls.g1 g180 ne106 h101
        have h96 := Imm.mono g180 h96
        have g0 := Gr.loc g0 nw107 g180
        have gl82 := Gr.loc gl82 nw108 g180
        have gl124 := Gr.loc gl124 n104 g180
        exact hm _ ⟨gl124, h181⟩
      obtain ⟨g182, h183⟩ := hr121
      have h59 := Ls.gA g182 nin0 h59
      have h68 := Imm.mono g182 h68
      have h101 := Ls.gA g182 nin0 h101
      have h96 := Imm.mono g182 h96
      have g0 := Gr.of0' g0 g182
      have gl82 := Gr.of0' gl82 g182
      refine rd_nil (tup_of_L (K := K) (Ls.q h183) fun v184 H185 g186 h187 => ?_)
      have h59 := Ls.g0 g186 h59
      have h68 := Imm.mono g186 h68
      have h101 := Ls.g0 g186 h101
      have h96 := Imm.mono g186 h96
      have g0 := g0.of0' g186
      have gl82 := gl82.of0' g186
      refine rd_gn ?_
      exact hm _ _ ⟨_, rfl, gl82, h101, h187⟩
    obtain ⟨w190, rfl, g188, h189, h191⟩ := hr81
    have h59 := Ls.gA g188 (nin1 ne74 nin0) h59
    have h68 := Imm.mono g188 h68
    have g0 := Gr.many g0 (all1 ((.inr nw75)) all0) g188
    refine rd_ret (rd_cb (rd_cons (rd_var rfl (rd_nil (tup_of_L (K := K) (Ls.q h189) fun v192 H193 g194 h195 => ?_)))))
    have h189 := Ls.g0 g194 h189
    have g0 := g0.of0' g194
    exact hm _ _ g0 h195

abbrev s_primitive_powers : Stmt := topS 31
abbrev n_primitive_powers : List Str := ["members", "p", "modulus", "at", "powers"]
theorem sc_primitive_powers : FnScope n_primitive_powers ["members", "p", "modulus"] (defScope s_primitive_powers) := ⟨rfl, rfl, rfl, by decide +kernel, rfl, by decide +kernel, by decide +kernel⟩
def m_primitive_powers_b1 (a_members : (List (List Int))) (s17 : Int × (List (List Int))) : R Bool :=
  R.ok (decide (((s17.2).length : Int) < (((a_members).length : Int) - (1 : Int))))
def m_primitive_powers_b2 (a_members : (List (List Int))) (a_p : Int) (a_modulus : (List Int)) (s17 : Int × (List (List Int))) : R (Int × (List (List Int))) :=
  (getL a_members (s17.1 + (1 : Int))).bind fun t30 => (m_powers_of t30 a_p a_modulus).bind fun t33 => R.ok ((s17.1 + (1 : Int)), t33)
def m_primitive_powers (a_members : (List (List Int))) (a_p : Int) (a_modulus : (List Int)) : R (List (List Int)) :=
  (getL a_members (1 : Int)).bind fun t1 => (m_powers_of t1 a_p a_modulus).bind fun t4 => (whileR (m_primitive_powers_b1 a_members) (m_primitive_powers_b2 a_members a_p a_modulus) 100000 ((1 : Int), t4)).bind fun s12 => R.ok s12.2
def sp_primitive_powers (K : PySem.W.Frag) (C : Xc) : Sp := fun vs H Q E => ∃ (a_members : (List (List Int))) (v_members : V) (a_p : Int) (a_modulus : (List Int)) (v_modulus : V), vs = [v_members, (.int a_p), v_modulus] ∧ (rT K (rT K rI)) H a_members v_members ∧ (rT K rI) H a_modulus v_modulus ∧ wp (m_primitive_powers a_members a_p a_modulus) (fun r => ∀ v H', Gr [] H H' → (rT K (rT K rI)) H' r v → Q v H') (XEr C [] H E)
theorem ok_primitive_powers {P : Program} {w : World} {K : PySem.W.Frag} {mg : Str → Option Value} {base : Heap} {f : Addr} {fd : FuncData} {c_fault c_zd c_mal c_refu : Addr} (F : Fun K "primitive_powers" "primitive_powers" s_primitive_powers f fd) (z_len : mg "len" = none) (c_powers_of : Cal P w K mg base (CX P w) 4 "powers_of" ["a", "p", "modulus"] (sp_powers_of K (⟨some c_fault, some c_zd, some c_mal, some c_refu, none⟩ : Xc))) : FnOk P w K mg base (CX P w) 5 f fd ["members", "p", "modulus"] (sp_primitive_powers K (⟨some c_fault, some c_zd, some c_mal, some c_refu, none⟩ : Xc)) := by
  obtain ⟨f_powers_of, fd_powers_of, G_powers_of, g_powers_of, k_powers_of, b_powers_of⟩ := c_powers_of
  refine F.okX sc_primitive_powers (fun vs H Q E h => ?_) (fun cdv A outer s H0 vs Q E hr h => ?_)
  · obtain ⟨a_members, v_members, a_p, a_modulus, v_modulus, rfl, h_members, h_modulus, hm⟩ := h
    rfl
  · obtain ⟨a_members, v_members, a_p, a_modulus, v_modulus, rfl, h_members, h_modulus, hm⟩ := h
    have hm : wp (m_primitive_powers a_members a_p a_modulus) _ _ := hm
    unfold m_primitive_powers at hm
    refine ⟨_, (pss_cons (ps_set (i := 3) sc_primitive_powers.nd rfl (Or.inl rfl) pe_int) (pss_cons (ps_set (i := 4) sc_primitive_powers.nd rfl (Or.inl rfl) (pe_callS G_powers_of (hr.mono (by decide)) (by rfl) g_powers_of k_powers_of b_powers_of (fun σ => passAt (takes_of rfl rfl rfl rfl) σ) (pa_cons (pe_ix (ix_tupK (K := K) rfl) (pv 0) (pv 3) (fun _ _ => rfl)) (pa_cons (pv 1) (pa_cons (pv 2) pa_nil))))) (pss_cons (ps_while PassesOwn.leaving (pt_cmpR op_lt (pe_callB (lenK (K := K) rfl) (by rfl) z_len PySem.boot_len (pa_cons (pv 4) pa_nil)) (pe_op op_sub (pe_callB (lenK (K := K) rfl) (by rfl) z_len PySem.boot_len (pa_cons (pv 0) pa_nil)) pe_int) (nomark _)) (pss_cons (ps_set (i := 3) sc_primitive_powers.nd rfl (Or.inl rfl) (pe_op op_add (pv 3) pe_int)) (pss_one (ps_set (i := 4) sc_primitive_powers.nd rfl (Or.inl rfl) (pe_callS G_powers_of (hr.mono (by decide)) (by rfl) g_powers_of k_powers_of b_powers_of (fun σ => passAt (takes_of rfl rfl rfl rfl) σ) (pa_cons (pe_ix (ix_tupK (K := K) rfl) (pv 0) (pv 3) (fun _ _ => rfl)) (pa_cons (pv 1) (pa_cons (pv 2) pa_nil)))))))) (pss_one (ps_ret (pv 4)))))), ?_⟩
    have g0 := Gr.refl (A := []) H0
    refine rd_seq (rd_asg (rd_c (rd_gn ?_)))
    refine rd_nx ?_
    refine rd_seq (rd_asg (rd_callS (rd_cons (rd_op (rd_var rfl (rd_var rfl (ix_T h_members (wp_bind hm) fun t1 v2 h3 hm => ?_)))))))
    refine rd_cons (rd_var rfl (rd_cons (rd_var rfl (rd_nil ⟨_, _, _, _, _, rfl, h3, h_modulus, wp_imp (wp_bind hm) (fun t4 hm v7 H5 g6 h8 => ?_) (fun _ e => XEr.sub g0 e)⟩))))
    have h_members := Imm.mono g6 h_members
    have h_modulus := Imm.mono g6 h_modulus
    have g0 := g0.of0' g6
    refine rd_gn ?_
    refine rd_nx ?_
    refine seq_join (t := tWhile _ _) (wp_bind hm) (fun (s : Int × (List (List Int))) (σ : L2.St) (H : Hp) => ∃ (w16 : V), σ = [some v_members, some (.int a_p), some v_modulus, some (.int s.1), some w16] ∧ Gr [] H5 H ∧ (rT K (rT K rI)) H s.2 w16) (fun N10 hN11 hm => ?_) (fun s12 σ H13 hr14 hm => ?_)
    · have gl15 := Gr.refl (A := []) H5
      refine whl_R (fun (s : Int × (List (List Int))) (σ : L2.St) (H : Hp) => ∃ (w16 : V), σ = [some v_members, some (.int a_p), some v_modulus, some (.int s.1), some w16] ∧ Gr [] H5 H ∧ (rT K (rT K rI)) H s.2 w16) (by exact wp_N hm (fun s σ' H' hr hz => hN11 s σ' H' hr hz)) ⟨_, rfl, gl15, h8⟩ (fun s17 σ H18 N20 W21 m22 hW23 hr19 hm => ?_)
      unfold m_primitive_powers_b1 at hm
      obtain ⟨w27, rfl, g26, h28⟩ := hr19
      have h_members := Imm.mono g26 h_members
      have h_modulus := Imm.mono g26 h_modulus
      have g0 := Gr.of0' g0 g26
      have gl15 := Gr.of0' gl15 g26
      refine rd_T (rd_op (rd_cb (rd_cons (rd_var rfl (rd_nil (len_T h28 (rd_op (rd_cb (rd_cons (rd_var rfl (rd_nil (len_T h_members (rd_c (rd_rI0 (rd_rI0 (rd_kB ?_))))))))))))))))
      refine iteB' (fun e29 => ?_) (fun e29 => ?_)
      · exact ifF e29 hm _ _ ⟨_, rfl, gl15, h28⟩
      have hm := ifT e29 hm
      unfold m_primitive_powers_b2 at hm
      refine ⟨N20, hW23, ?_⟩
      refine rd_seq (rd_asg (rd_op (rd_var rfl (rd_c (rd_rI0 (rd_gn ?_))))))
      refine rd_nx ?_
      refine rd_asg (rd_callS (rd_cons (rd_op (rd_var rfl (rd_var rfl (ix_T h_members (wp_bind hm) fun t30 v31 h32 hm => ?_))))))
      refine rd_cons (rd_var rfl (rd_cons (rd_var rfl (rd_nil ⟨_, _, _, _, _, rfl, h32, h_modulus, wp_imp (wp_bind hm) (fun t33 hm v36 H34 g35 h37 => ?_) (fun _ e => XEr.sub g0 e)⟩))))
      have h_members := Imm.mono g35 h_members
      have h_modulus := Imm.mono g35 h_modulus
      have g0 := g0.of0' g35
      have gl15 := gl15.of0' g35
      refine rd_gn ?_
      exact hm _ _ ⟨_, rfl, gl15, h37⟩
    obtain ⟨w39, rfl, g38, h40⟩ := hr14
    have h_members := Imm.mono g38 h_members
    have h_modulus := Imm.mono g38 h_modulus
    have g0 := Gr.of0' g0 g38
    exact rd_ret (rd_var rfl (hm _ _ g0 h40))

abbrev s_written_power : Stmt := topS 34
abbrev n_written_power : List Str := ["name", "k"]
theorem sc_written_power : FnScope n_written_power ["name", "k"] (defScope s_written_power) := ⟨rfl, rfl, rfl, by decide +kernel, rfl, by decide +kernel, by decide +kernel⟩
def m_written_power (a_name : PySem.Str) (a_k : Int) : R PySem.Str :=
  ((R.ok (decide (a_k = (1 : Int)))).bind fun b => if b = true then R.ok a_name else grd (strOk a_name) <| grd (strOk ((PySem.Str.empty) ++ a_name)) <| grd (strOk (((PySem.Str.empty) ++ a_name) ++ ("^" : PySem.Str))) <| grd (fmtOk a_k) <| grd (strOk ((((PySem.Str.empty) ++ a_name) ++ ("^" : PySem.Str)) ++ ((toString a_k : String) : PySem.Str))) <| R.ok ((((PySem.Str.empty) ++ a_name) ++ ("^" : PySem.Str)) ++ ((toString a_k : String) : PySem.Str))).bind fun t13 => R.ok t13
def sp_written_power (K : PySem.W.Frag) : Sp := fun vs H Q _ => ∃ (a_name : PySem.Str) (a_k : Int), vs = [(.str a_name), (.int a_k)] ∧ wp (m_written_power a_name a_k) (fun r => ∀ H', Gr [] H H' → Q (.str r) H') (fun _ => False)
theorem ok_written_power {P : Program} {w : World} {K : PySem.W.Frag} {mg : Str → Option Value} {base : Heap} {f : Addr} {fd : FuncData} (F : Fun K "written_power" "written_power" s_written_power f fd) : FnOk P w K mg base CX0 1 f fd ["name", "k"] (sp_written_power K) := by
  refine F.ok sc_written_power (fun vs H Q E h => ?_) (fun cdv A outer s H0 vs Q E hr h => ?_)
  · obtain ⟨a_name, a_k, rfl, hm⟩ := h
    rfl
  · obtain ⟨a_name, a_k, rfl, hm⟩ := h
    have hm : wp (m_written_power a_name a_k) _ _ := hm
    unfold m_written_power at hm
    refine ⟨_, (pss_one (ps_ret (pe_ifExp (pt_cmpR op_eqI (pv 1) pe_int (nomark _)) (pv 0) (pe_joined (.cons (pe_fmt (pv 0)) (.cons pe_str (.cons (pe_fmt (pv 1)) .nil))))))), ?_⟩
    have g0 := Gr.refl (A := []) H0
    refine rd_ret ((ev_if (r := rS) (fun Q hm => by
        have gb1 := Gr.refl (A := []) H0
        exact rd_T (rd_op (rd_var rfl (rd_c (rd_rI0 (rd_kB (hm _ gb1))))))) (fun H2 g3 Q hm => by
        have g0 := g0.of0' g3
        have gb4 := Gr.refl (A := []) H2
        exact rd_var rfl (hm _ _ gb4 rfl)) (fun H5 g6 Q hm => by
        have g0 := g0.of0' g6
        have gb7 := Gr.refl (A := []) H5
        obtain ⟨c8, hm⟩ := wp_grd hm
        obtain ⟨c9, hm⟩ := wp_grd hm
        obtain ⟨c10, hm⟩ := wp_grd hm
        obtain ⟨c11, hm⟩ := wp_grd hm
        obtain ⟨c12, hm⟩ := wp_grd hm
        exact rd_jd (rd_jc (rd_fmt (rd_var rfl (fmt_S c8 (rd_js c9 (rd_jc (rd_c (rd_js c10 (rd_jc (rd_fmt (rd_var rfl (fmt_I c11 (rd_js c12 (rd_j0 (hm _ _ gb7 rfl))))))))))))))))) _ (wp_imp (wp_bind hm) (fun t13 hm v14 H15 g16 h17 => ?_) (fun _ e => e)))
    have g0 := g0.of0' g16
    obtain rfl := h17
    exact hm _ g0

abbrev s_written_term : Stmt := topS 33
abbrev n_written_term : List Str := ["coefficient", "k", "power"]
theorem sc_written_term : FnScope n_written_term ["coefficient", "k"] (defScope s_written_term) := ⟨rfl, rfl, rfl, by decide +kernel, rfl, by decide +kernel, by decide +kernel⟩
def m_written_term (a_coefficient : Int) (a_k : Int) : R PySem.Str :=
  if (decide (a_k = (0 : Int))) = true then (grd (fmtOk a_coefficient) <| R.ok ((toString a_coefficient : String) : PySem.Str)) else ((m_written_power ("t" : PySem.Str) a_k).bind fun t3 => ((R.ok (decide (a_coefficient = (1 : Int)))).bind fun b => if b = true then R.ok t3 else grd (fmtOk a_coefficient) <| grd (strOk ((PySem.Str.empty) ++ ((toString a_coefficient : String) : PySem.Str))) <| grd (strOk (((PySem.Str.empty) ++ ((toString a_coefficient : String) : PySem.Str)) ++ ("*" : PySem.Str))) <| grd (strOk t3) <| grd (strOk ((((PySem.Str.empty) ++ ((toString a_coefficient : String) : PySem.Str)) ++ ("*" : PySem.Str)) ++ t3)) <| R.ok ((((PySem.Str.empty) ++ ((toString a_coefficient : String) : PySem.Str)) ++ ("*" : PySem.Str)) ++ t3)).bind fun t18 => R.ok t18)
def sp_written_term (K : PySem.W.Frag) : Sp := fun vs H Q _ => ∃ (a_coefficient : Int) (a_k : Int), vs = [(.int a_coefficient), (.int a_k)] ∧ wp (m_written_term a_coefficient a_k) (fun r => ∀ H', Gr [] H H' → Q (.str r) H') (fun _ => False)
theorem ok_written_term {P : Program} {w : World} {K : PySem.W.Frag} {mg : Str → Option Value} {base : Heap} {f : Addr} {fd : FuncData} (F : Fun K "written_term" "written_term" s_written_term f fd) (c_written_power : Cal P w K mg base CX0 1 "written_power" ["name", "k"] (sp_written_power K)) : FnOk P w K mg base CX0 2 f fd ["coefficient", "k"] (sp_written_term K) := by
  obtain ⟨f_written_power, fd_written_power, G_written_power, g_written_power, k_written_power, b_written_power⟩ := c_written_power
  refine F.ok sc_written_term (fun vs H Q E h => ?_) (fun cdv A outer s H0 vs Q E hr h => ?_)
  · obtain ⟨a_coefficient, a_k, rfl, hm⟩ := h
    rfl
  · obtain ⟨a_coefficient, a_k, rfl, hm⟩ := h
    have hm : wp (m_written_term a_coefficient a_k) _ _ := hm
    unfold m_written_term at hm
    refine ⟨_, (pss_cons (ps_if (pt_cmpR op_eqI (pv 1) pe_int (nomark _)) (pss_one (ps_ret (pe_joined1 (pe_fmt (pv 0))))) pss_nil) (pss_cons (ps_set (i := 2) sc_written_term.nd rfl (Or.inl rfl) (pe_call G_written_power (hr.mono (by decide)) (by rfl) g_written_power k_written_power b_written_power .nil pass0 (pa_cons pe_str (pa_cons (pv 1) pa_nil)))) (pss_one (ps_ret (pe_ifExp (pt_cmpR op_eqI (pv 0) pe_int (nomark _)) (pv 2) (pe_joined (.cons (pe_fmt (pv 0)) (.cons pe_str (.cons (pe_fmt (pv 2)) .nil))))))))), ?_⟩
    have g0 := Gr.refl (A := []) H0
    refine rd_seq (rd_if (rd_T (rd_op (rd_var rfl (rd_c (rd_rI0 (rd_kB ?_)))))))
    refine iteB (fun e1 => ?_) (fun e1 => ?_)
    · have hm := ifT e1 (wp_iteB hm)
      obtain ⟨c2, hm⟩ := wp_grd hm
      exact rd_ret (rd_fmt (rd_var rfl (fmt_I c2 (hm _ g0))))
    have hm := ifF e1 (wp_iteB hm)
    refine rd_next (rd_nx ?_)
    refine rd_seq (rd_asg (rd_call (rd_cons (rd_c (rd_cons (rd_var rfl (rd_nil ⟨_, _, rfl, wp_imp (wp_bind hm) (fun t3 hm H4 g5 => ?_) (fun _ e => e)⟩)))))))
    have g0 := g0.of0' g5
    refine rd_gn ?_
    refine rd_nx ?_
    refine rd_ret ((ev_if (r := rS) (fun Q hm => by
        have gb6 := Gr.refl (A := []) H4
        exact rd_T (rd_op (rd_var rfl (rd_c (rd_rI0 (rd_kB (hm _ gb6))))))) (fun H7 g8 Q hm => by
        have g0 := g0.of0' g8
        have gb9 := Gr.refl (A := []) H7
        exact rd_var rfl (hm _ _ gb9 rfl)) (fun H10 g11 Q hm => by
        have g0 := g0.of0' g11
        have gb12 := Gr.refl (A := []) H10
        obtain ⟨c13, hm⟩ := wp_grd hm
        obtain ⟨c14, hm⟩ := wp_grd hm
        obtain ⟨c15, hm⟩ := wp_grd hm
        obtain ⟨c16, hm⟩ := wp_grd hm
        obtain ⟨c17, hm⟩ := wp_grd hm
        exact rd_jd (rd_jc (rd_fmt (rd_var rfl (fmt_I c13 (rd_js c14 (rd_jc (rd_c (rd_js c15 (rd_jc (rd_fmt (rd_var rfl (fmt_S c16 (rd_js c17 (rd_j0 (hm _ _ gb12 rfl))))))))))))))))) _ (wp_imp (wp_bind hm) (fun t18 hm v19 H20 g21 h22 => ?_) (fun _ e => e)))
    have g0 := g0.of0' g21
    obtain rfl := h22
    exact hm _ g0

abbrev s_Field_written : Stmt := inClass (topS 28) 18
abbrev n_Field_written : List Str := ["self", "a", "terms", "k"]
theorem sc_Field_written : FnScope n_Field_written ["self", "a"] (defScope s_Field_written) := ⟨rfl, rfl, rfl, by decide +kernel, rfl, by decide +kernel, by decide +kernel⟩
def m_Field_written_b1 (a_a : (List Int)) (s8 : List PySem.Str) (x9 : Int) : R (List PySem.Str) :=
  (getL a_a x9).bind fun t23 => if (!decide (t23 = (0 : Int))) = true then ((getL a_a x9).bind fun t27 => (m_written_term t27 x9).bind fun t30 => grd (lenLt s8) <| R.ok (s8 ++ [t30])) else R.ok s8
def m_Field_written (a_self : (Int × (List Int) × Int × Int × (List (List Int)) × (List (List Int)) × (List ((List Int) × Int)))) (a_a : (List Int)) : R PySem.Str :=
  grd (rgOk a_self.2.2.1) <| (foldR (m_Field_written_b1 a_a) ([]) (rngC (((a_self.2.2.1).toNat : Int) - 1) (-1) (a_self.2.2.1).toNat)).bind fun s15 => ((R.ok (!(s15).isEmpty)).bind fun b => if b = true then grd (joinOk ("+" : PySem.Str) s15) <| R.ok (Txt.join ("+" : PySem.Str) s15) else R.ok ("0" : PySem.Str)).bind fun t47 => R.ok t47
def sp_Field_written (K : PySem.W.Frag) (c_Field : Addr) : Sp := fun vs H Q _ => ∃ (a_self : (Int × (List Int) × Int × Int × (List (List Int)) × (List (List Int)) × (List ((List Int) × Int)))) (p_self : Addr) (d_self : Addr) (w_self_1 : V) (w_self_4 : V) (w_self_5 : V) (w_self_6 : V) (a_a : (List Int)) (v_a : V), vs = [.ref p_self, v_a] ∧ H p_self = some (.ins c_Field d_self [("p", (.int a_self.1)), ("modulus", w_self_1), ("n", (.int a_self.2.2.1)), ("q", (.int a_self.2.2.2.1)), ("_members", w_self_4), ("_powers", w_self_5), ("_logarithms", w_self_6)]) ∧ (rT K rI) H a_self.2.1 w_self_1 ∧ (rT K (rT K rI)) H a_self.2.2.2.2.1 w_self_4 ∧ (rT K (rT K rI)) H a_self.2.2.2.2.2.1 w_self_5 ∧ (rDA K rI) H a_self.2.2.2.2.2.2 w_self_6 ∧ (rT K rI) H a_a v_a ∧ wp (m_Field_written a_self a_a) (fun r => ∀ H', Gr [] H H' → Q (.str r) H') (fun _ => False)
theorem ok_Field_written {P : Program} {w : World} {K : PySem.W.Frag} {mg : Str → Option Value} {base : Heap} {f : Addr} {fd : FuncData} {c_Field : Addr} (F : Fun K "written" "Field.written" s_Field_written f fd) (z_reversed : mg "reversed" = none) (z_range : mg "range" = none) (kl_Field : Cls K c_Field) (na_Field_n : NoAttr K c_Field "n") (c_written_term : Cal P w K mg base CX0 2 "written_term" ["coefficient", "k"] (sp_written_term K)) : FnOk P w K mg base CX0 3 f fd ["self", "a"] (sp_Field_written K c_Field) := by
  obtain ⟨f_written_term, fd_written_term, G_written_term, g_written_term, k_written_term, b_written_term⟩ := c_written_term
  refine F.ok sc_Field_written (fun vs H Q E h => ?_) (fun cdv A outer s H0 vs Q E hr h => ?_)
  · obtain ⟨a_self, p_self, d_self, w_self_1, w_self_4, w_self_5, w_self_6, a_a, v_a, rfl, h_self, h_self_1, h_self_4, h_self_5, h_self_6, h_a, hm⟩ := h
    rfl
  · obtain ⟨a_self, p_self, d_self, w_self_1, w_self_4, w_self_5, w_self_6, a_a, v_a, rfl, h_self, h_self_1, h_self_4, h_self_5, h_self_6, h_a, hm⟩ := h
    have hm : wp (m_Field_written a_self a_a) _ _ := hm
    unfold m_Field_written at hm
    refine ⟨_, (pss_cons (ps_setLc (i := 2) (own := [("k", 3)]) (g := gName 3) rfl sc_Field_written.nd rfl rfl (sw_true rfl rfl rfl (by decide +kernel)) (pi_revR (by rfl) z_reversed (prg_1 (by rfl) z_range (pe_fldK (K := K) rfl (pv 0) rfl))) (blkOk_by (own := [("k", 3)]) (N := n_Field_written) (sc := defScope s_Field_written) (by decide +kernel)) (fun _ _ _ _ _ => pg_name (i := 3) sc_Field_written.nd rfl (Or.inl rfl)) (fun _ _ _ _ _ => pts_one (pt_cmpR op_neI (pe_ix (ix_tupK (K := K) rfl) (pv 1) (pv 3) (fun _ _ => rfl)) pe_int (nomark _))) (fun _ _ _ _ _ => (pe_call G_written_term (hr.mono (by decide)) (by rfl) g_written_term k_written_term b_written_term .nil pass0 (pa_cons (pe_ix (ix_tupK (K := K) rfl) (pv 1) (pv 3) (fun _ _ => rfl)) (pa_cons (pv 3) pa_nil))))) (pss_one (ps_ret (pe_ifExp (pt_tru (K := K) (pv 2) rfl) (pe_joinK (K := K) pe_str (pv 2) rfl) pe_str)))), ?_⟩
    have g0 := Gr.refl (A := []) H0
    obtain ⟨c1, hm⟩ := wp_grd hm
    refine rd_seq (rd_asg (rd_lc (rd_irev (rd_fld (rd_var rfl (get_fld h_self kl_Field na_Field_n rfl (rd_rev c1 (fun p2 n3 => ?_))))))))
    have nw4 := Gr.free g0 n3
    refine lc_R (r := rI) (H0 := H0) (H1 := H0) wk_rngC (fun (s : List PySem.Str) (H : Hp) => Gr [] H0 H ∧ Ls rS H p2 s) (wp_bind hm) ⟨Gr.new n3, ⟨[], upd_same, .nil⟩⟩ (fun _ _ hr => by obtain ⟨g, _⟩ := hr; exact ⟨trivial, _, g⟩) (fun x9 v10 s8 H12 H18 N13 hr14 hg19 hx11 hm => ?_) (fun s15 H16 hr17 hm => ?_)
    · unfold m_Field_written_b1 at hm
      obtain ⟨g20, h21⟩ := hr14
      have h_self_1 := Imm.mono g20 h_self_1
      have h_self_4 := Imm.mono g20 h_self_4
      have h_self_5 := Imm.mono g20 h_self_5
      have h_self_6 := Imm.mono g20 h_self_6
      have h_self := ins_gA g20 nin0 h_self
      have h_a := Imm.mono g20 h_a
      have g0 := Gr.of0' g0 g20
      have gl22 := g20
      have h_self_1 := Imm.mono hg19 h_self_1
      have h_self_4 := Imm.mono hg19 h_self_4
      have h_self_5 := Imm.mono hg19 h_self_5
      have h_self_6 := Imm.mono hg19 h_self_6
      have h_self := ins_g0 hg19 h_self
      have h_a := Imm.mono hg19 h_a
      have h21 := Ls.g0 hg19 h21
      have g0 := g0.of0' hg19
      have gl22 := gl22.of0' hg19
      obtain rfl := hx11
      refine rd_gn ⟨rfl, ?_⟩
      refine rd_T (rd_op (rd_op (rd_var rfl (rd_var rfl (ix_T h_a (wp_bind hm) fun t23 v24 h25 hm => ?_)))))
      obtain rfl := h25
      refine rd_c (rd_rI0 (rd_kB ?_))
      refine iteB' (fun e26 => ?_) (fun e26 => ?_)
      · exact ifF e26 (wp_iteB hm) _ ⟨gl22, h21⟩
      have hm := ifT e26 (wp_iteB hm)
      refine rd_call (rd_cons (rd_op (rd_var rfl (rd_var rfl (ix_T h_a (wp_bind hm) fun t27 v28 h29 hm => ?_)))))
      obtain rfl := h29
      refine rd_cons (rd_var rfl (rd_nil ⟨_, _, rfl, wp_imp (wp_bind hm) (fun t30 hm H31 g32 => ?_) (fun _ e => e)⟩))
      have h_self_1 := Imm.mono g32 h_self_1
      have h_self_4 := Imm.mono g32 h_self_4
      have h_self_5 := Imm.mono g32 h_self_5
      have h_self_6 := Imm.mono g32 h_self_6
      have h_self := ins_g0 g32 h_self
      have h_a := Imm.mono g32 h_a
      have h21 := Ls.g0 g32 h21
      have g0 := g0.of0' g32
      have gl22 := gl22.of0' g32
      obtain ⟨c33, hm⟩ := wp_grd hm
      refine lc_add h21 rfl c33 fun H34 g35 h36 => ?_
      have h_self_1 := Imm.mono g35 h_self_1
      have h_self_4 := Imm.mono g35 h_self_4
      have h_self_5 := Imm.mono g35 h_self_5
      have h_self_6 := Imm.mono g35 h_self_6
      have h_self := ins_gA g35 (nin1 (ins_ne h_self h21) nin0) h_self
      have h_a := Imm.mono g35 h_a
      have g0 := Gr.loc g0 nw4 g35
      have gl22 := Gr.loc gl22 n3 g35
      exact hm _ ⟨gl22, h36⟩
    obtain ⟨g37, h38⟩ := hr17
    have h_self_1 := Imm.mono g37 h_self_1
    have h_self_4 := Imm.mono g37 h_self_4
    have h_self_5 := Imm.mono g37 h_self_5
    have h_self_6 := Imm.mono g37 h_self_6
    have h_self := ins_gA g37 nin0 h_self
    have h_a := Imm.mono g37 h_a
    have g0 := Gr.of0' g0 g37
    refine rd_gn ?_
    refine rd_nx ?_
    refine rd_ret ((ev_if (r := rS) (fun Q hm => by
        have gb39 := Gr.refl (A := []) H16
        exact rd_Tru (rd_var rfl (tru_L (Ls.q h38) (hm _ gb39)))) (fun H40 g41 Q hm => by
        have h_self_1 := Imm.mono g41 h_self_1
        have h_self_4 := Imm.mono g41 h_self_4
        have h_self_5 := Imm.mono g41 h_self_5
        have h_self_6 := Imm.mono g41 h_self_6
        have h38 := Ls.g0 g41 h38
        have g0 := g0.of0' g41
        have gb42 := Gr.refl (A := []) H40
        obtain ⟨c43, hm⟩ := wp_grd hm
        exact rd_join (rd_var rfl (join_L (Ls.q h38) c43 (hm _ _ gb42 rfl)))) (fun H44 g45 Q hm => by
        have h_self_1 := Imm.mono g45 h_self_1
        have h_self_4 := Imm.mono g45 h_self_4
        have h_self_5 := Imm.mono g45 h_self_5
        have h_self_6 := Imm.mono g45 h_self_6
        have h38 := Ls.g0 g45 h38
        have g0 := g0.of0' g45
        have gb46 := Gr.refl (A := []) H44
        exact rd_c (hm _ _ gb46 rfl))) _ (wp_imp (wp_bind hm) (fun t47 hm v48 H49 g50 h51 => ?_) (fun _ e => e)))
    have h_self_1 := Imm.mono g50 h_self_1
    have h_self_4 := Imm.mono g50 h_self_4
    have h_self_5 := Imm.mono g50 h_self_5
    have h_self_6 := Imm.mono g50 h_self_6
    have h38 := Ls.g0 g50 h38
    have g0 := g0.of0' g50
    obtain rfl := h51
    exact hm _ g0

abbrev O_Field : Type := Int × (List Int) × Int × Int × (List (List Int)) × (List (List Int)) × (List ((List Int) × Int)) × (List (PySem.Str × (List Int)))
def rO_Field (K : PySem.W.Frag) (c_Field : Addr) : Rp O_Field := fun H x v => ∃ (a dx : Addr) (v0 v1 v2 v3 v4 v5 v6 v7 : V), v = .ref a ∧ H a = some (.ins c_Field dx [("p", v0), ("modulus", v1), ("n", v2), ("q", v3), ("_members", v4), ("_powers", v5), ("_logarithms", v6), ("_texts", v7)]) ∧ rI H x.1 v0 ∧ (rT K rI) H x.2.1 v1 ∧ rI H x.2.2.1 v2 ∧ rI H x.2.2.2.1 v3 ∧ (rT K (rT K rI)) H x.2.2.2.2.1 v4 ∧ (rT K (rT K rI)) H x.2.2.2.2.2.1 v5 ∧ (rDA K rI) H x.2.2.2.2.2.2.1 v6 ∧ (rDS (rT K rI)) H x.2.2.2.2.2.2.2 v7
instance {K : PySem.W.Frag} {c : Addr} : Imm (rO_Field K c) := ⟨fun g ⟨a, dx, v0, v1, v2, v3, v4, v5, v6, v7, e, h, h0, h1, h2, h3, h4, h5, h6, h7⟩ => ⟨a, dx, v0, v1, v2, v3, v4, v5, v6, v7, e, g _ _ h rfl, Imm.im (r := rI) g h0, Imm.im (r := (rT K rI)) g h1, Imm.im (r := rI) g h2, Imm.im (r := rI) g h3, Imm.im (r := (rT K (rT K rI))) g h4, Imm.im (r := (rT K (rT K rI))) g h5, Imm.im (r := (rDA K rI)) g h6, Imm.im (r := (rDS (rT K rI))) g h7⟩⟩
instance {K : PySem.W.Frag} {c : Addr} : NoN (rO_Field K c) := ⟨fun ⟨a, dx, v0, v1, v2, v3, v4, v5, v6, v7, e, _⟩ z => by rw [e] at z; cases z⟩
theorem fld_Field_p {K : PySem.W.Frag} {c : Addr} {H : Hp} {x : O_Field} {v : V} {Q : VK} (h : rO_Field K c H x v) (k : Cls K c) (n : NoAttr K c "p") (q : ∀ w, rI H x.1 w → Q w H) : fldA K "p" Q v H := by
  obtain ⟨a, dx, v0, v1, v2, v3, v4, v5, v6, v7, rfl, e, h0, h1, h2, h3, h4, h5, h6, h7⟩ := h
  exact get_fld e k n rfl (q _ h0)
theorem fld_Field_modulus {K : PySem.W.Frag} {c : Addr} {H : Hp} {x : O_Field} {v : V} {Q : VK} (h : rO_Field K c H x v) (k : Cls K c) (n : NoAttr K c "modulus") (q : ∀ w, (rT K rI) H x.2.1 w → Q w H) : fldA K "modulus" Q v H := by
  obtain ⟨a, dx, v0, v1, v2, v3, v4, v5, v6, v7, rfl, e, h0, h1, h2, h3, h4, h5, h6, h7⟩ := h
  exact get_fld e k n rfl (q _ h1)
theorem fld_Field_n {K : PySem.W.Frag} {c : Addr} {H : Hp} {x : O_Field} {v : V} {Q : VK} (h : rO_Field K c H x v) (k : Cls K c) (n : NoAttr K c "n") (q : ∀ w, rI H x.2.2.1 w → Q w H) : fldA K "n" Q v H := by
  obtain ⟨a, dx, v0, v1, v2, v3, v4, v5, v6, v7, rfl, e, h0, h1, h2, h3, h4, h5, h6, h7⟩ := h
  exact get_fld e k n rfl (q _ h2)
theorem fld_Field_q {K : PySem.W.Frag} {c : Addr} {H : Hp} {x : O_Field} {v : V} {Q : VK} (h : rO_Field K c H x v) (k : Cls K c) (n : NoAttr K c "q") (q : ∀ w, rI H x.2.2.2.1 w → Q w H) : fldA K "q" Q v H := by
  obtain ⟨a, dx, v0, v1, v2, v3, v4, v5, v6, v7, rfl, e, h0, h1, h2, h3, h4, h5, h6, h7⟩ := h
  exact get_fld e k n rfl (q _ h3)
theorem fld_Field__members {K : PySem.W.Frag} {c : Addr} {H : Hp} {x : O_Field} {v : V} {Q : VK} (h : rO_Field K c H x v) (k : Cls K c) (n : NoAttr K c "_members") (q : ∀ w, (rT K (rT K rI)) H x.2.2.2.2.1 w → Q w H) : fldA K "_members" Q v H := by
  obtain ⟨a, dx, v0, v1, v2, v3, v4, v5, v6, v7, rfl, e, h0, h1, h2, h3, h4, h5, h6, h7⟩ := h
  exact get_fld e k n rfl (q _ h4)
theorem fld_Field__powers {K : PySem.W.Frag} {c : Addr} {H : Hp} {x : O_Field} {v : V} {Q : VK} (h : rO_Field K c H x v) (k : Cls K c) (n : NoAttr K c "_powers") (q : ∀ w, (rT K (rT K rI)) H x.2.2.2.2.2.1 w → Q w H) : fldA K "_powers" Q v H := by
  obtain ⟨a, dx, v0, v1, v2, v3, v4, v5, v6, v7, rfl, e, h0, h1, h2, h3, h4, h5, h6, h7⟩ := h
  exact get_fld e k n rfl (q _ h5)
theorem fld_Field__logarithms {K : PySem.W.Frag} {c : Addr} {H : Hp} {x : O_Field} {v : V} {Q : VK} (h : rO_Field K c H x v) (k : Cls K c) (n : NoAttr K c "_logarithms") (q : ∀ w, (rDA K rI) H x.2.2.2.2.2.2.1 w → Q w H) : fldA K "_logarithms" Q v H := by
  obtain ⟨a, dx, v0, v1, v2, v3, v4, v5, v6, v7, rfl, e, h0, h1, h2, h3, h4, h5, h6, h7⟩ := h
  exact get_fld e k n rfl (q _ h6)
theorem fld_Field__texts {K : PySem.W.Frag} {c : Addr} {H : Hp} {x : O_Field} {v : V} {Q : VK} (h : rO_Field K c H x v) (k : Cls K c) (n : NoAttr K c "_texts") (q : ∀ w, (rDS (rT K rI)) H x.2.2.2.2.2.2.2 w → Q w H) : fldA K "_texts" Q v H := by
  obtain ⟨a, dx, v0, v1, v2, v3, v4, v5, v6, v7, rfl, e, h0, h1, h2, h3, h4, h5, h6, h7⟩ := h
  exact get_fld e k n rfl (q _ h7)
theorem gen_Field_members {K : PySem.W.Frag} {c : Addr} {H : Hp} {x : O_Field} {v : V} {R : It → Hp → Prop} (h : rO_Field K c H x v) (q : ∀ a vs, SqT K H a vs → Paired ((rT K rI) H) x.2.2.2.2.1 vs → R (GenS.Itg K a vs) H) : genA K c "members" "_members" R v H := by
  obtain ⟨a, dx, v0, v1, v2, v3, v4, v5, v6, v7, rfl, e, h0, h1, h2, h3, h4, h5, h6, h7⟩ := h
  obtain ⟨t, rfl, ws, hl, hp⟩ := h4
  exact ⟨a, dx, _, t, ws, rfl, e, rfl, rfl, hl, q t ws hl hp⟩
theorem meth_Field {K : PySem.W.Frag} {c : Addr} {H : Hp} {x : O_Field} {v : V} {m : Str} {N : V → Hp → Prop} (h : rO_Field K c H x v) (l : (["p", "modulus", "n", "q", "_members", "_powers", "_logarithms", "_texts"] : List Str).all (fun k => !(m == k)) = true) (q : N v H) : methA c m N v H := by
  obtain ⟨a, dx, v0, v1, v2, v3, v4, v5, v6, v7, rfl, e, h0, h1, h2, h3, h4, h5, h6, h7⟩ := h
  exact on_meth e (lookup_no l) q
theorem ins_Field {K : PySem.W.Frag} {c : Addr} {H : Hp} {x : O_Field} {v : V} (h : rO_Field K c H x v) : ∃ a dx fs, v = .ref a ∧ H a = some (.ins c dx fs) := by
  obtain ⟨a, dx, v0, v1, v2, v3, v4, v5, v6, v7, rfl, e, h0, h1, h2, h3, h4, h5, h6, h7⟩ := h
  exact ⟨a, dx, _, rfl, e⟩

abbrev s_Field___init__ : Stmt := inClass (topS 28) 0
abbrev n_Field___init__ : List Str := ["self", "p", "modulus", "k", "a", "number"]
theorem sc_Field___init__ : FnScope n_Field___init__ ["self", "p", "modulus"] (defScope s_Field___init__) := ⟨rfl, rfl, rfl, by decide +kernel, rfl, by decide +kernel, by decide +kernel⟩
def m_Field___init___b1 (a_p : Int) (a_modulus : (List Int)) (s30 : List (List Int)) (x31 : Int) : R (List (List Int)) :=
  (noEr (m_digits x31 a_p (((a_modulus).length : Int) - (1 : Int)))).bind fun t43 => grd (lenLt s30) <| R.ok (s30 ++ [t43])
def m_Field___init___b2 (s78 : (List ((List Int) × Int))) (x79 : (Int × (List Int))) : R (List ((List Int) × Int)) :=
  grd (lenLt s78) <| R.ok (putM s78 x79.2 x79.1)
def m_Field___init___b3 (a_p : Int) (a_modulus : (List Int)) (t18 : Int) (s37 : List (List Int)) (t61 : (List (List Int))) (s87 : (List ((List Int) × Int))) (s121 : (List (PySem.Str × (List Int)))) (x122 : (List Int)) : R (List (PySem.Str × (List Int))) :=
  (noEr (m_Field_written (a_p, a_modulus, (((a_modulus).length : Int) - (1 : Int)), t18, s37, t61, s87) x122)).bind fun t136 => grd (lenLt s121) <| R.ok (putM s121 t136 x122)
def m_Field___init__ (a_self : Unit) (a_p : Int) (a_modulus : (List Int)) : R O_Field :=
  (m_check_making a_p a_modulus).bind fun t1 => (noEr (m_power_within a_p (((a_modulus).length : Int) - (1 : Int)) (400 : Int))).bind fun t13 => (unO t13).bind fun t18 => grd (rgOk t18) <| (foldR (m_Field___init___b1 a_p a_modulus) ([]) (rng 0 (t18).toNat)).bind fun s37 => (m_primitive_powers s37 a_p a_modulus).bind fun t61 => (foldR m_Field___init___b2 [] (enumF t61)).bind fun s87 => (foldR (m_Field___init___b3 a_p a_modulus t18 s37 t61 s87) [] s37).bind fun s130 => R.ok (a_p, a_modulus, (((a_modulus).length : Int) - (1 : Int)), t18, s37, t61, s87, s130)
def sp_Field___init__ (K : PySem.W.Frag) (c_Field : Addr) (C : Xc) (TT : List Addr) : Sp := fun vs H Q E => ∃ (a_self : Unit) (p_self : Addr) (d_self : Addr) (a_p : Int) (a_modulus : (List Int)) (v_modulus : V) (Hb : Hp), vs = [.ref p_self, (.int a_p), v_modulus] ∧ Gr [] Hb H ∧ Hb p_self = none ∧ H p_self = some (.ins c_Field d_self []) ∧ (rT K rI) H a_modulus v_modulus ∧ TabsA TT Hb ∧ wp (m_Field___init__ a_self a_p a_modulus) (fun r => ∀ H', Gr [] Hb H' → (rO_Field K c_Field) H' r (.ref p_self) → Q .non H') (XEr C [] Hb E)
theorem ok_Field___init__ {P : Program} {w : World} {K : PySem.W.Frag} {mg : Str → Option Value} {base : Heap} {f : Addr} {fd : FuncData} {dvs : List V} {c_fault c_zd c_mal c_refu : Addr} {TT : List Addr} {tk_MOST_MEMBERS : Tok} {c_Field : Addr} (F : L2.FunD K "__init__" "Field.__init__" (defArgs s_Field___init__) (defBody s_Field___init__) (defScope s_Field___init__) dvs [] f fd) (z_tuple : mg "tuple" = none) (z_len : mg "len" = none) (z_range : mg "range" = none) (z_enumerate : mg "enumerate" = none) (kl_Field : Cls K c_Field) (na_Field_p : NoAttr K c_Field "p") (na_Field_modulus : NoAttr K c_Field "modulus") (na_Field_n : NoAttr K c_Field "n") (gk_MOST_MEMBERS : mg "MOST_MEMBERS" = some (.int 400 tk_MOST_MEMBERS)) (na_Field_q : NoAttr K c_Field "q") (na_Field__members : NoAttr K c_Field "_members") (na_Field__powers : NoAttr K c_Field "_powers") (na_Field__logarithms : NoAttr K c_Field "_logarithms") (na_Field__texts : NoAttr K c_Field "_texts") (c_check_making : Cal P w K mg base (CX P w) 8 "check_making" ["p", "modulus"] (sp_check_making K (⟨some c_fault, some c_zd, some c_mal, some c_refu, none⟩ : Xc) TT)) (c_power_within : Cal P w K mg base CX0 1 "power_within" ["a", "k", "limit"] (sp_power_within K)) (c_digits : Cal P w K mg base CX0 1 "digits" ["number", "base", "count"] (sp_digits K)) (c_primitive_powers : Cal P w K mg base (CX P w) 5 "primitive_powers" ["members", "p", "modulus"] (sp_primitive_powers K (⟨some c_fault, some c_zd, some c_mal, some c_refu, none⟩ : Xc))) (c_Field_written : CalM P w K mg base CX0 3 c_Field "written" ["self", "a"] (sp_Field_written K c_Field)) : FnOk P w K mg base (CX P w) 9 f fd ["self", "p", "modulus"] (sp_Field___init__ K c_Field (⟨some c_fault, some c_zd, some c_mal, some c_refu, none⟩ : Xc) TT) := by
  obtain ⟨f_check_making, fd_check_making, G_check_making, g_check_making, k_check_making, b_check_making⟩ := c_check_making
  obtain ⟨f_power_within, fd_power_within, G_power_within, g_power_within, k_power_within, b_power_within⟩ := c_power_within
  obtain ⟨f_digits, fd_digits, G_digits, g_digits, k_digits, b_digits⟩ := c_digits
  obtain ⟨f_primitive_powers, fd_primitive_powers, G_primitive_powers, g_primitive_powers, k_primitive_powers, b_primitive_powers⟩ := c_primitive_powers
  obtain ⟨f_Field_written, fd_Field_written, G_Field_written, M_Field_written, b_Field_written⟩ := c_Field_written
  refine L2.FunD.ok F sc_Field___init__ (fun vs H Q E h => ?_) (fun cdv A outer s H0 vs Q E hr h => ?_)
  · obtain ⟨a_self, p_self, d_self, a_p, a_modulus, v_modulus, Hb, rfl, g0, nb, h_self, h_modulus, hTT, hm⟩ := h
    rfl
  · obtain ⟨a_self, p_self, d_self, a_p, a_modulus, v_modulus, Hb, rfl, g0, nb, h_self, h_modulus, hTT, hm⟩ := h
    have hm : wp (m_Field___init__ a_self a_p a_modulus) _ _ := hm
    unfold m_Field___init__ at hm
    refine ⟨_, (pss_cons (ps_expr (pe_callS G_check_making (hr.mono (by decide)) (by rfl) g_check_making k_check_making b_check_making (fun σ => passAt (takes_of rfl rfl rfl rfl) σ) (pa_cons (pv 1) (pa_cons (pv 2) pa_nil)))) (pss_cons (ps_fld (pv 0) (pv 1) rfl) (pss_cons (ps_fld (pv 0) (pe_callTy (tupleK (K := K) rfl) (by rfl) z_tuple (by decide +kernel) (pa_cons (pv 2) pa_nil)) rfl) (pss_cons (ps_fld (pv 0) (pe_op op_sub (pe_callB (lenK (K := K) rfl) (by rfl) z_len PySem.boot_len (pa_cons (pv 2) pa_nil)) pe_int) rfl) (pss_cons (ps_fld (pv 0) (pe_call G_power_within (hr.mono (by decide)) (by rfl) g_power_within k_power_within b_power_within .nil pass0 (pa_cons (pv 1) (pa_cons (pe_fldK (K := K) rfl (pv 0) rfl) (pa_cons (pe_glob (v := .int 400) (by rfl) gk_MOST_MEMBERS ⟨_, rfl⟩) pa_nil)))) rfl) (pss_cons (ps_fld (pv 0) (pe_callTy (tupleK (K := K) rfl) (by rfl) z_tuple (by decide +kernel) (pa_cons (pe_lc (own := [("number", 5)]) (g := gName 5) (tt := tYes) rfl sc_Field___init__.nd (pi_range1 (by rfl) z_range (pa_cons (pe_fldK (K := K) rfl (pv 0) rfl) pa_nil)) (blkOk_by (own := [("number", 5)]) (N := n_Field___init__) (sc := defScope s_Field___init__) (by decide +kernel)) (fun _ _ _ _ _ => pg_name (i := 5) sc_Field___init__.nd rfl (Or.inl rfl)) (fun _ _ _ _ _ => pts_nil) (fun _ _ _ _ _ => (pe_call G_digits (hr.mono (by decide)) (by rfl) g_digits k_digits b_digits .nil pass0 (pa_cons (pv 5) (pa_cons (pv 1) (pa_cons (pe_fldK (K := K) rfl (pv 0) rfl) pa_nil)))))) pa_nil)) rfl) (pss_cons (ps_fld (pv 0) (pe_callS G_primitive_powers (hr.mono (by decide)) (by rfl) g_primitive_powers k_primitive_powers b_primitive_powers (fun σ => passAt (takes_of rfl rfl rfl rfl) σ) (pa_cons (pe_fldK (K := K) rfl (pv 0) rfl) (pa_cons (pv 1) (pa_cons (pe_fldK (K := K) rfl (pv 0) rfl) pa_nil)))) rfl) (pss_cons (ps_fld (pv 0) (pe_frz (pe_dcA (own := [("k", 3), ("a", 4)]) (g := (gTup K 2 (gCons (gName 3) (gCons (gName 4) gNil)))) (K := K) rfl (u1 hr.units) rfl sc_Field___init__.nd (pi_enumT (K := K) (by rfl) z_enumerate (pa_cons (pe_fldK (K := K) rfl (pv 0) rfl) pa_nil) rfl) (blkOk_by (own := [("k", 3), ("a", 4)]) (N := n_Field___init__) (sc := defScope s_Field___init__) (by decide +kernel)) (fun _ _ _ _ _ => pg_tup rfl (pgs_cons (pg_name (i := 3) sc_Field___init__.nd rfl (Or.inl rfl) (Or.inr rfl)) (pgs_cons (pg_name (i := 4) sc_Field___init__.nd rfl (Or.inl rfl) (Or.inr rfl)) pgs_nil))) (fun _ _ _ _ _ => (pv 4)) (fun _ _ _ _ _ => (pv 3)))) rfl) (pss_one (ps_fld (pv 0) (pe_frz (pe_dc (own := [("a", 4)]) (g := gName 4) (tt := tYes) rfl sc_Field___init__.nd (pi_tupK (K := K) (pe_fldK (K := K) rfl (pv 0) rfl) rfl) (blkOk_by (own := [("a", 4)]) (N := n_Field___init__) (sc := defScope s_Field___init__) (by decide +kernel)) (fun _ _ _ _ _ => pg_name (i := 4) sc_Field___init__.nd rfl (Or.inl rfl)) (fun _ _ _ _ _ => pts_nil) (fun _ _ _ _ _ => (pe_methS (pv 0) kl_Field M_Field_written G_Field_written (hr.mono (by decide)) b_Field_written passN (pa_cons (pv 4) pa_nil))) (fun _ _ _ _ _ => (pv 4)))) rfl)))))))))), ?_⟩
    refine rd_seq (rd_drop (rd_callS (rd_cons (rd_var rfl (rd_cons (rd_var rfl (rd_nil ⟨_, _, _, rfl, h_modulus, (hTT.gr g0), wp_imp (wp_bind hm) (fun t1 hm H2 g3 => ?_) (fun _ e => XEr.sub g0 e)⟩)))))))
    have h_self := ins_g0 g3 h_self
    have h_modulus := Imm.mono g3 h_modulus
    have g0 := g0.of0' g3
    refine rd_nx ?_
    refine rd_seq (rd_sfld (rd_var rfl (rd_var rfl (set_fld (y := (.int a_p)) h_self (show (5 : Nat) ≠ 0 by decide) kl_Field na_Field_p (by show 0 < 1000; decide) fun H4 f5 h6 => ?_))))
    have h_modulus := Imm.im f5.im h_modulus
    have g0 := Gr.fz g0 nb f5
    have h_self : H4 p_self = some (.ins c_Field d_self [("p", (.int a_p))]) := h6
    refine rd_nx ?_
    refine rd_seq (rd_sfld (rd_cb (rd_cons (rd_var rfl (rd_nil (tup_of_T h_modulus (rd_var rfl (set_fld (y := v_modulus) h_self (show (5 : Nat) ≠ 0 by decide) kl_Field na_Field_modulus (by show 1 < 1000; decide) fun H7 f8 h9 => ?_))))))))
    have h_modulus := Imm.im f8.im h_modulus
    have g0 := Gr.fz g0 nb f8
    have h_self : H7 p_self = some (.ins c_Field d_self [("p", (.int a_p)), ("modulus", v_modulus)]) := h9
    refine rd_nx ?_
    refine rd_seq (rd_sfld (rd_op (rd_cb (rd_cons (rd_var rfl (rd_nil (len_T h_modulus (rd_c (rd_rI0 (rd_var rfl (set_fld (y := (.int (((a_modulus).length : Int) - (1 : Int)))) h_self (show (5 : Nat) ≠ 0 by decide) kl_Field na_Field_n (by show 2 < 1000; decide) fun H10 f11 h12 => ?_)))))))))))
    have h_modulus := Imm.im f11.im h_modulus
    have g0 := Gr.fz g0 nb f11
    have h_self : H10 p_self = some (.ins c_Field d_self [("p", (.int a_p)), ("modulus", v_modulus), ("n", (.int (((a_modulus).length : Int) - (1 : Int))))]) := h12
    refine rd_nx ?_
    refine rd_seq (rd_sfld (rd_call (rd_cons (rd_var rfl (rd_cons (rd_fld (rd_var rfl (get_fld h_self kl_Field na_Field_n rfl (rd_cons (rd_c (rd_nil ⟨_, _, _, rfl, wp_imp (wp_bindN hm) (fun t13 hm v16 H14 g15 h17 => ?_) (fun _ e => e)⟩)))))))))))
    have h_self := ins_g0 g15 h_self
    have h_modulus := Imm.mono g15 h_modulus
    have g0 := g0.of0' g15
    obtain ⟨t18, h19, hm⟩ := unO_I h17 (wp_bind hm)
    have h19 : v16 = .int t18 := h19
    rw [h19]
    refine rd_var rfl (set_fld (y := (.int t18)) h_self (show (5 : Nat) ≠ 0 by decide) kl_Field na_Field_q (by show 3 < 1000; decide) fun H20 f21 h22 => ?_)
    have h_modulus := Imm.im f21.im h_modulus
    have g0 := Gr.fz g0 nb f21
    have h_self : H20 p_self = some (.ins c_Field d_self [("p", (.int a_p)), ("modulus", v_modulus), ("n", (.int (((a_modulus).length : Int) - (1 : Int)))), ("q", (.int t18))]) := h22
    refine rd_nx ?_
    obtain ⟨c23, hm⟩ := wp_grd hm
    refine rd_seq (rd_sfld (rd_cb (rd_cons (rd_lc (rd_r1 (rd_cons (rd_fld (rd_var rfl (get_fld h_self kl_Field na_Field_q rfl (rd_nil ⟨_, rfl, c23.1, c23.2, fun p24 n25 => ?_⟩))))))))))
    have nw26 := Gr.free g0 n25
    refine lc_rng (lo := 0) (n := (t18).toNat) (fun (s : List (List Int)) (H : Hp) => Gr [] H20 H ∧ Ls (rT K rI) H p24 s) (wp_bind hm) ⟨Gr.new n25, ⟨[], upd_same, .nil⟩⟩ (fun x31 s30 H34 N35 hr36 hm => ?_) (fun s37 H38 hr39 hm => ?_)
    · unfold m_Field___init___b1 at hm
      obtain ⟨g40, h41⟩ := hr36
      have h_self := ins_gA g40 nin0 h_self
      have h_modulus := Imm.mono g40 h_modulus
      have g0 := Gr.of0' g0 g40
      have gl42 := g40
      refine rd_gn ⟨rfl, rd_yes (iteT (rd_call (rd_cons (rd_var rfl (rd_cons (rd_var rfl (rd_cons (rd_fld (rd_var rfl (get_fld h_self kl_Field na_Field_n rfl (rd_nil ⟨_, _, _, rfl, wp_imp (wp_bindN hm) (fun t43 hm v46 H44 g45 h47 => ?_) (fun _ e => e)⟩)))))))))))⟩
      have h_self := ins_g0 g45 h_self
      have h_modulus := Imm.mono g45 h_modulus
      have h41 := Ls.g0 g45 h41
      have g0 := g0.of0' g45
      have gl42 := gl42.of0' g45
      obtain ⟨c48, hm⟩ := wp_grd hm
      refine lc_add h41 h47 c48 fun H49 g50 h51 => ?_
      have h_self := ins_gA g50 (nin1 (ins_ne h_self h41) nin0) h_self
      have h_modulus := Imm.mono g50 h_modulus
      have g0 := Gr.loc g0 nw26 g50
      have gl42 := Gr.loc gl42 n25 g50
      exact hm _ ⟨gl42, h51⟩
    obtain ⟨g52, h53⟩ := hr39
    have h_self := ins_gA g52 nin0 h_self
    have h_modulus := Imm.mono g52 h_modulus
    have g0 := Gr.of0' g0 g52
    refine rd_nil (tup_of_L (K := K) (Ls.q h53) fun v54 H55 g56 h57 => ?_)
    have h_self := ins_g0 g56 h_self
    have h_modulus := Imm.mono g56 h_modulus
    have g0 := g0.of0' g56
    refine rd_var rfl (set_fld (y := v54) h_self (show (5 : Nat) ≠ 0 by decide) kl_Field na_Field__members (by show 4 < 1000; decide) fun H58 f59 h60 => ?_)
    have h_modulus := Imm.im f59.im h_modulus
    have h57 := Imm.im f59.im h57
    have g0 := Gr.fz g0 nb f59
    have h_self : H58 p_self = some (.ins c_Field d_self [("p", (.int a_p)), ("modulus", v_modulus), ("n", (.int (((a_modulus).length : Int) - (1 : Int)))), ("q", (.int t18)), ("_members", v54)]) := h60
    refine rd_nx ?_
    refine rd_seq (rd_sfld (rd_callS (rd_cons (rd_fld (rd_var rfl (get_fld h_self kl_Field na_Field__members rfl (rd_cons (rd_var rfl (rd_cons (rd_fld (rd_var rfl (get_fld h_self kl_Field na_Field_modulus rfl (rd_nil ⟨_, _, _, _, _, rfl, h57, h_modulus, wp_imp (wp_bind hm) (fun t61 hm v64 H62 g63 h65 => ?_) (fun _ e => XEr.sub g0 e)⟩)))))))))))))
    have h_self := ins_g0 g63 h_self
    have h_modulus := Imm.mono g63 h_modulus
    have h57 := Imm.mono g63 h57
    have g0 := g0.of0' g63
    refine rd_var rfl (set_fld (y := v64) h_self (show (5 : Nat) ≠ 0 by decide) kl_Field na_Field__powers (by show 5 < 1000; decide) fun H66 f67 h68 => ?_)
    have h_modulus := Imm.im f67.im h_modulus
    have h57 := Imm.im f67.im h57
    have h65 := Imm.im f67.im h65
    have g0 := Gr.fz g0 nb f67
    have h_self : H66 p_self = some (.ins c_Field d_self [("p", (.int a_p)), ("modulus", v_modulus), ("n", (.int (((a_modulus).length : Int) - (1 : Int)))), ("q", (.int t18)), ("_members", v54), ("_powers", v64)]) := h68
    refine rd_nx ?_
    obtain ⟨a69, ea73, vs70, hl71, hp72⟩ := id h65
    refine rd_seq (rd_sfld (rd_frzE (rd_dcD (rd_ienumT (rd_cons (rd_fld (rd_var rfl (get_fld h_self kl_Field na_Field__powers rfl (rd_nil (enum_t ea73 hl71 (fun p74 n75 => ?_)))))))))))
    have nw76 := Gr.free g0 n75
    refine dc_R (o0 := (DA p74 [])) (put := (dputA K)) (r := (rP K rI (rT K rI))) (H0 := H66) (H1 := H66) (wk_enumT hp72) (fun (s : (List ((List Int) × Int))) (H : Hp) => Gr [] H66 H ∧ LsD K rI H p74 s) (wp_bind hm) ⟨Gr.new n75, LsD.new⟩ (fun _ _ hr => by obtain ⟨g, _⟩ := hr; exact ⟨g.tup hl71, _, g⟩) (fun x79 v80 s78 H82 H83 N85 hr86 hg84 hx81 hm => ?_) (fun s87 H88 hr89 hm => ?_)
    · unfold m_Field___init___b2 at hm
      obtain ⟨g90, h91⟩ := hr86
      have h_self := ins_g0 g90 h_self
      have h_modulus := Imm.mono g90 h_modulus
      have h57 := Imm.mono g90 h57
      have h65 := Imm.mono g90 h65
      have g0 := Gr.of0' g0 g90
      have gl92 := g90
      have h_self := ins_g0 hg84 h_self
      have h_modulus := Imm.mono hg84 h_modulus
      have h57 := Imm.mono hg84 h57
      have h65 := Imm.mono hg84 h65
      have h91 := LsD.g0 hg84 h91
      have g0 := g0.of0' hg84
      have gl92 := gl92.of0' hg84
      obtain ⟨a93, x94, x95, ea99, h96, h97, h98⟩ := id hx81
      obtain rfl := h97
      obtain ⟨c100, hm⟩ := wp_grd hm
      refine rd_gtE ea99 h96 rfl (rd_gc (rd_gn (rd_gc (rd_gn (rd_g0 ⟨rfl, rd_var rfl (rd_var rfl (dput_D h91 h98 rfl c100 fun H101 g102 h103 => ?_))⟩)))))
      have h_self := ins_gA g102 (nin1 (ins_neD h_self h91) nin0) h_self
      have h_modulus := Imm.mono g102 h_modulus
      have h57 := Imm.mono g102 h57
      have h65 := Imm.mono g102 h65
      have h98 := Imm.mono g102 h98
      have g0 := Gr.loc g0 nw76 g102
      have gl92 := Gr.loc gl92 n75 g102
      exact hm _ ⟨gl92, h103⟩
    obtain ⟨g104, h105⟩ := hr89
    have h_self := ins_g0 g104 h_self
    have h_modulus := Imm.mono g104 h_modulus
    have h57 := Imm.mono g104 h57
    have h65 := Imm.mono g104 h65
    have g0 := Gr.of0' g0 g104
    refine fz_D h105 fun H106 f107 h108 => ?_
    have h_self := ins_fz f107 (ins_neD h_self h105) h_self
    have h_modulus := Imm.im f107.im h_modulus
    have h57 := Imm.im f107.im h57
    have h65 := Imm.im f107.im h65
    have g0 := Gr.fz g0 nw76 f107
    refine rd_var rfl (set_fld (y := (.ref p74)) h_self (show (5 : Nat) ≠ 0 by decide) kl_Field na_Field__logarithms (by show 6 < 1000; decide) fun H109 f110 h111 => ?_)
    have h_modulus := Imm.im f110.im h_modulus
    have h57 := Imm.im f110.im h57
    have h65 := Imm.im f110.im h65
    have h108 := Imm.im f110.im h108
    have g0 := Gr.fz g0 nb f110
    have h_self : H109 p_self = some (.ins c_Field d_self [("p", (.int a_p)), ("modulus", v_modulus), ("n", (.int (((a_modulus).length : Int) - (1 : Int)))), ("q", (.int t18)), ("_members", v54), ("_powers", v64), ("_logarithms", (.ref p74))]) := h111
    refine rd_nx ?_
    obtain ⟨a115, ea116, vs112, hl113, hp114⟩ := id h57
    refine rd_sfld (rd_frzE (rd_dcS (rd_it (rd_fld (rd_var rfl (get_fld h_self kl_Field na_Field__members rfl ⟨_, ea116, ⟨_, hl113⟩, fun p117 n118 => ?_⟩))))))
    have nw119 := Gr.free g0 n118
    refine dc_R (o0 := (.dK [])) (put := dputS) (r := (rT K rI)) (H0 := H109) (H1 := H109) (wk_tup hp114) (fun (s : (List (PySem.Str × (List Int)))) (H : Hp) => Gr [] H109 H ∧ LsS (rT K rI) H p117 s) (wp_bind hm) ⟨Gr.new n118, LsS.new⟩ (fun _ _ hr => by obtain ⟨g, _⟩ := hr; exact ⟨g.tup hl113, _, g⟩) (fun x122 v123 s121 H125 H126 N128 hr129 hg127 hx124 hm => ?_) (fun s130 H131 hr132 hm => ?_)
    · unfold m_Field___init___b3 at hm
      obtain ⟨g133, h134⟩ := hr129
      have h_self := ins_g0 g133 h_self
      have h_modulus := Imm.mono g133 h_modulus
      have h57 := Imm.mono g133 h57
      have h65 := Imm.mono g133 h65
      have h108 := Imm.mono g133 h108
      have g0 := Gr.of0' g0 g133
      have gl135 := g133
      have h_self := ins_g0 hg127 h_self
      have h_modulus := Imm.mono hg127 h_modulus
      have h57 := Imm.mono hg127 h57
      have h65 := Imm.mono hg127 h65
      have h108 := Imm.mono hg127 h108
      have h134 := LsS.g0 hg127 h134
      have g0 := g0.of0' hg127
      have gl135 := gl135.of0' hg127
      refine rd_gn ⟨rfl, rd_meth (rd_var rfl (on_meth h_self rfl (rd_cons (rd_var rfl (rd_nil ⟨_, _, _, _, _, _, _, _, _, rfl, h_self, h_modulus, h57, h65, h108, hx124, wp_imp (wp_bindN hm) (fun t136 hm H137 g138 => ?_) (fun _ e => e)⟩)))))⟩
      have h_self := ins_g0 g138 h_self
      have h_modulus := Imm.mono g138 h_modulus
      have h57 := Imm.mono g138 h57
      have h65 := Imm.mono g138 h65
      have h108 := Imm.mono g138 h108
      have hx124 := Imm.mono g138 hx124
      have h134 := LsS.g0 g138 h134
      have g0 := g0.of0' g138
      have gl135 := gl135.of0' g138
      obtain ⟨c139, hm⟩ := wp_grd hm
      refine rd_var rfl (dput_S h134 hx124 c139 fun H140 g141 h142 => ?_)
      have h_self := ins_gA g141 (nin1 (ins_neS h_self h134) nin0) h_self
      have h_modulus := Imm.mono g141 h_modulus
      have h57 := Imm.mono g141 h57
      have h65 := Imm.mono g141 h65
      have h108 := Imm.mono g141 h108
      have hx124 := Imm.mono g141 hx124
      have g0 := Gr.loc g0 nw119 g141
      have gl135 := Gr.loc gl135 n118 g141
      exact hm _ ⟨gl135, h142⟩
    obtain ⟨g143, h144⟩ := hr132
    have h_self := ins_g0 g143 h_self
    have h_modulus := Imm.mono g143 h_modulus
    have h57 := Imm.mono g143 h57
    have h65 := Imm.mono g143 h65
    have h108 := Imm.mono g143 h108
    have g0 := Gr.of0' g0 g143
    refine fz_S h144 fun H145 f146 h147 => ?_
    have h_self := ins_fz f146 (ins_neS h_self h144) h_self
    have h_modulus := Imm.im f146.im h_modulus
    have h57 := Imm.im f146.im h57
    have h65 := Imm.im f146.im h65
    have h108 := Imm.im f146.im h108
    have g0 := Gr.fz g0 nw119 f146
    refine rd_var rfl (set_fld (y := (.ref p117)) h_self (show (5 : Nat) ≠ 0 by decide) kl_Field na_Field__texts (by show 7 < 1000; decide) fun H148 f149 h150 => ?_)
    have h_modulus := Imm.im f149.im h_modulus
    have h57 := Imm.im f149.im h57
    have h65 := Imm.im f149.im h65
    have h108 := Imm.im f149.im h108
    have h147 := Imm.im f149.im h147
    have g0 := Gr.fz g0 nb f149
    have h_self : H148 p_self = some (.ins c_Field d_self [("p", (.int a_p)), ("modulus", v_modulus), ("n", (.int (((a_modulus).length : Int) - (1 : Int)))), ("q", (.int t18)), ("_members", v54), ("_powers", v64), ("_logarithms", (.ref p74)), ("_texts", (.ref p117))]) := h150
    exact hm _ g0 ⟨_, _, _, _, _, _, _, _, _, _, rfl, h_self, rfl, h_modulus, rfl, rfl, h57, h65, h108, h147⟩

abbrev s__law_field : Stmt := topS 50
abbrev n__law_field : List Str := ["numbers", "most", "sizes", "p", "n"]
theorem sc__law_field : FnScope n__law_field ["numbers", "most"] (defScope s__law_field) := ⟨rfl, rfl, rfl, by decide +kernel, rfl, by decide +kernel, by decide +kernel⟩
def m__law_field (a_numbers : (List Int)) (a_most : Int) : R (O_Field × (List Int)) :=
  (m__law_next a_numbers (((cutT ([((2 : Int), (1 : Int)), ((3 : Int), (1 : Int)), ((2 : Int), (2 : Int)), ((5 : Int), (1 : Int)), ((3 : Int), (2 : Int)), ((2 : Int), (3 : Int)), ((7 : Int), (1 : Int))]) none (some a_most))).length : Int)).bind fun t43 => (getL (cutT ([((2 : Int), (1 : Int)), ((3 : Int), (1 : Int)), ((2 : Int), (2 : Int)), ((5 : Int), (1 : Int)), ((3 : Int), (2 : Int)), ((2 : Int), (3 : Int)), ((7 : Int), (1 : Int))]) none (some a_most)) t43.1).bind fun t47 => (m__law_next t43.2 t47.1).bind fun t57 => (m__law_modulus t47.1 t47.2 t57.1).bind fun t61 => (m_Field___init__ () t47.1 t61).bind fun t72 => R.ok (t72, t57.2)
def sp__law_field (K : PySem.W.Frag) (c_Field : Addr) (TT : List Addr) : Sp := fun vs H Q _ => ∃ (a_numbers : (List Int)) (p_numbers : Addr) (a_most : Int), vs = [.ref p_numbers, (.int a_most)] ∧ Ls rI H p_numbers a_numbers ∧ TabsA TT H ∧ wp (m__law_field a_numbers a_most) (fun r => ∀ v H', Gr [p_numbers] H H' → (rO_Field K c_Field) H' r.1 v → Ls rI H' p_numbers r.2 → Q v H') (fun _ => False)
theorem ok__law_field {P : Program} {w : World} {K : PySem.W.Frag} {mg : Str → Option Value} {base : Heap} {f : Addr} {fd : FuncData} {c_fault c_zd c_mal c_refu : Addr} {TT : List Addr} {c_Field : Addr} (F : Fun K "_law_field" "_law_field" s__law_field f fd) (z_len : mg "len" = none) (c__law_next : Cal P w K mg base CX0 1 "_law_next" ["numbers", "many"] (sp__law_next K)) (c__law_modulus : Cal P w K mg base CX0 2 "_law_modulus" ["p", "n", "number"] (sp__law_modulus K)) (c_Field___init__ : CalI P w K mg base (CX P w) 9 c_Field "Field" ["self", "p", "modulus"] (sp_Field___init__ K c_Field (⟨some c_fault, some c_zd, some c_mal, some c_refu, none⟩ : Xc) TT)) : FnOk P w K mg base CX0 11 f fd ["numbers", "most"] (sp__law_field K c_Field TT) := by
  obtain ⟨f__law_next, fd__law_next, G__law_next, g__law_next, k__law_next, b__law_next⟩ := c__law_next
  obtain ⟨f__law_modulus, fd__law_modulus, G__law_modulus, g__law_modulus, k__law_modulus, b__law_modulus⟩ := c__law_modulus
  obtain ⟨f_Field___init__, fd_Field___init__, G_Field___init__, M_Field___init__, g_Field___init__, b_Field___init__⟩ := c_Field___init__
  refine F.ok sc__law_field (fun vs H Q E h => ?_) (fun cdv A outer s H0 vs Q E hr h => ?_)
  · obtain ⟨a_numbers, p_numbers, a_most, rfl, h_numbers, hTT, hm⟩ := h
    rfl
  · obtain ⟨a_numbers, p_numbers, a_most, rfl, h_numbers, hTT, hm⟩ := h
    have hm : wp (m__law_field a_numbers a_most) _ _ := hm
    unfold m__law_field at hm
    refine ⟨_, (pss_cons (ps_set (i := 2) sc__law_field.nd rfl (Or.inl rfl) (pe_slice (sl_listK (K := K) rfl) (pe_lst (pa_cons (pe_tup (pa_cons pe_int (pa_cons pe_int pa_nil))) (pa_cons (pe_tup (pa_cons pe_int (pa_cons pe_int pa_nil))) (pa_cons (pe_tup (pa_cons pe_int (pa_cons pe_int pa_nil))) (pa_cons (pe_tup (pa_cons pe_int (pa_cons pe_int pa_nil))) (pa_cons (pe_tup (pa_cons pe_int (pa_cons pe_int pa_nil))) (pa_cons (pe_tup (pa_cons pe_int (pa_cons pe_int pa_nil))) (pa_cons (pe_tup (pa_cons pe_int (pa_cons pe_int pa_nil))) pa_nil)))))))) po_none (po_some (pv 1)))) (pss_cons (ps_asg (pe_ix (ix_listK (K := K) rfl) (pv 2) (pe_call G__law_next (hr.mono (by decide)) (by rfl) g__law_next k__law_next b__law_next .nil pass0 (pa_cons (pv 0) (pa_cons (pe_callB (lenK (K := K) rfl) (by rfl) z_len PySem.boot_len (pa_cons (pv 2) pa_nil)) pa_nil))) (fun _ _ => rfl)) (pg_tup rfl (pgs_cons (pg_name (i := 3) sc__law_field.nd rfl (Or.inl rfl)) (pgs_cons (pg_name (i := 4) sc__law_field.nd rfl (Or.inl rfl)) pgs_nil)))) (pss_one (ps_ret (pe_makeS M_Field___init__ G_Field___init__ (hr.mono (by decide)) (by rfl) g_Field___init__ b_Field___init__ passLS (pa_cons (pv 3) (pa_cons (pe_call G__law_modulus (hr.mono (by decide)) (by rfl) g__law_modulus k__law_modulus b__law_modulus .nil pass0 (pa_cons (pv 3) (pa_cons (pv 4) (pa_cons (pe_call G__law_next (hr.mono (by decide)) (by rfl) g__law_next k__law_next b__law_next .nil pass0 (pa_cons (pv 0) (pa_cons (pv 3) pa_nil))) pa_nil)))) pa_nil))))))), ?_⟩
    have g0 := Gr.refl (A := [p_numbers]) H0
    refine rd_seq (rd_asg (rd_sl (rd_lst (rd_cons (rd_tup (rd_cons (rd_c (rd_cons (rd_c (rd_nil (mk_P (K := K) (r := rI) (s := rI) rfl rfl fun v1 H2 g3 h4 => ?_)))))))))))
    have h_numbers := Ls.g0 g3 h_numbers
    have g0 := g0.of0' g3
    refine rd_cons (rd_tup (rd_cons (rd_c (rd_cons (rd_c (rd_nil (mk_P (K := K) (r := rI) (s := rI) rfl rfl fun v5 H6 g7 h8 => ?_)))))))
    have h_numbers := Ls.g0 g7 h_numbers
    have h4 := Imm.mono g7 h4
    have g0 := g0.of0' g7
    refine rd_cons (rd_tup (rd_cons (rd_c (rd_cons (rd_c (rd_nil (mk_P (K := K) (r := rI) (s := rI) rfl rfl fun v9 H10 g11 h12 => ?_)))))))
    have h_numbers := Ls.g0 g11 h_numbers
    have h4 := Imm.mono g11 h4
    have h8 := Imm.mono g11 h8
    have g0 := g0.of0' g11
    refine rd_cons (rd_tup (rd_cons (rd_c (rd_cons (rd_c (rd_nil (mk_P (K := K) (r := rI) (s := rI) rfl rfl fun v13 H14 g15 h16 => ?_)))))))
    have h_numbers := Ls.g0 g15 h_numbers
    have h4 := Imm.mono g15 h4
    have h8 := Imm.mono g15 h8
    have h12 := Imm.mono g15 h12
    have g0 := g0.of0' g15
    refine rd_cons (rd_tup (rd_cons (rd_c (rd_cons (rd_c (rd_nil (mk_P (K := K) (r := rI) (s := rI) rfl rfl fun v17 H18 g19 h20 => ?_)))))))
    have h_numbers := Ls.g0 g19 h_numbers
    have h4 := Imm.mono g19 h4
    have h8 := Imm.mono g19 h8
    have h12 := Imm.mono g19 h12
    have h16 := Imm.mono g19 h16
    have g0 := g0.of0' g19
    refine rd_cons (rd_tup (rd_cons (rd_c (rd_cons (rd_c (rd_nil (mk_P (K := K) (r := rI) (s := rI) rfl rfl fun v21 H22 g23 h24 => ?_)))))))
    have h_numbers := Ls.g0 g23 h_numbers
    have h4 := Imm.mono g23 h4
    have h8 := Imm.mono g23 h8
    have h12 := Imm.mono g23 h12
    have h16 := Imm.mono g23 h16
    have h20 := Imm.mono g23 h20
    have g0 := g0.of0' g23
    refine rd_cons (rd_tup (rd_cons (rd_c (rd_cons (rd_c (rd_nil (mk_P (K := K) (r := rI) (s := rI) rfl rfl fun v25 H26 g27 h28 => ?_)))))))
    have h_numbers := Ls.g0 g27 h_numbers
    have h4 := Imm.mono g27 h4
    have h8 := Imm.mono g27 h8
    have h12 := Imm.mono g27 h12
    have h16 := Imm.mono g27 h16
    have h20 := Imm.mono g27 h20
    have h24 := Imm.mono g27 h24
    have g0 := g0.of0' g27
    refine rd_nil (mk_L (r := (rP K rI rI)) (xs := [((2 : Int), (1 : Int)), ((3 : Int), (1 : Int)), ((2 : Int), (2 : Int)), ((5 : Int), (1 : Int)), ((3 : Int), (2 : Int)), ((2 : Int), (3 : Int)), ((7 : Int), (1 : Int))]) (.cons h4 (.cons h8 (.cons h12 (.cons h16 (.cons h20 (.cons h24 (.cons h28 .nil))))))) (by show 7 ≤ sizeLine; decide) fun p29 H30 n31 g32 h33 => ?_)
    have ne34 : p_numbers ≠ p29 := Ls.ne h_numbers n31
    have nw35 := Gr.free g0 n31
    have h_numbers := Ls.g0 g32 h_numbers
    have g0 := g0.of0' g32
    refine rd_np (rd_part (rd_var rfl (rd_kI (cut_L (K := K) (Ls.q h33) fun p36 H37 n38 g39 h40 => ?_))))
    have ne41 : p_numbers ≠ p36 := Ls.ne h_numbers n38
    have nw42 := Gr.free g0 n38
    have h_numbers := Ls.g0 g39 h_numbers
    have g0 := g0.of0' g39
    refine rd_gn ?_
    refine rd_nx ?_
    refine rd_seq (rd_asg (rd_op (rd_var rfl (rd_call (rd_cons (rd_var rfl (rd_cons (rd_cb (rd_cons (rd_var rfl (rd_nil (len_L (Ls.q h40) (rd_nil ⟨_, _, _, rfl, h_numbers, wp_imp (wp_bind hm) (fun t43 hm H44 g45 h46 => ?_) (fun _ e => e)⟩)))))))))))))
    have h40 := Ls.g1 g45 (Ne.symm ne41) h40
    have g0 := Gr.at1 g0 (by simp) g45
    refine ix_L (Ls.q h40) (wp_bind hm) fun t47 v48 h49 hm => ?_
    obtain ⟨a50, x51, x52, ea56, h53, h54, h55⟩ := id h49
    obtain rfl := h54
    obtain rfl := h55
    refine rd_gtE ea56 h53 rfl (rd_gc (rd_gn (rd_gc (rd_gn (rd_g0 ?_)))))
    refine rd_nx ?_
    refine rd_ret (rd_make (rd_cons (rd_var rfl (rd_cons (rd_call (rd_cons (rd_var rfl (rd_cons (rd_var rfl (rd_cons (rd_call (rd_cons (rd_var rfl (rd_cons (rd_var rfl (rd_nil ⟨_, _, _, rfl, h46, wp_imp (wp_bind hm) (fun t57 hm H58 g59 h60 => ?_) (fun _ e => e)⟩))))))))))))))))
    have g0 := Gr.at1 g0 (by simp) g59
    refine rd_nil ⟨_, _, _, rfl, wp_imp (wp_bind hm) (fun t61 hm v64 H62 g63 h65 => ?_) (fun _ e => e)⟩
    have h60 := Ls.g0 g63 h60
    have g0 := g0.of0' g63
    refine rd_nil (fun p66 d67 n68 n69 n70 => ?_)
    have g71 := gr_make (C := c_Field) n68 n69 n70
    refine ⟨(), _, _, _, _, _, H62, rfl, g71, n68, upd_same, (Imm.mono g71 h65), (hTT.gr g0), wp_imp (wp_bind hm) (fun t72 hm H73 g74 h75 => ⟨rfl, ?_⟩) (fun _ e => False.elim e)⟩
    have h60 := Ls.g0 g74 h60
    have g0 := g0.of0' g74
    exact hm _ _ g0 h75 h60

abbrev s__law_zero : Stmt := topS 53
abbrev n__law_zero : List Str := ["field"]
theorem sc__law_zero : FnScope n__law_zero ["field"] (defScope s__law_zero) := ⟨rfl, rfl, rfl, by decide +kernel, rfl, by decide +kernel, by decide +kernel⟩
def m__law_zero (a_field : O_Field) : R (List Int) :=
  (m__law_member a_field.1 a_field.2.2.1 (0 : Int)).bind fun t5 => R.ok t5
def sp__law_zero (K : PySem.W.Frag) (c_Field : Addr) : Sp := fun vs H Q _ => ∃ (a_field : O_Field) (v_field : V), vs = [v_field] ∧ (rO_Field K c_Field) H a_field v_field ∧ wp (m__law_zero a_field) (fun r => ∀ v H', Gr [] H H' → (rT K rI) H' r v → Q v H') (fun _ => False)
theorem ok__law_zero {P : Program} {w : World} {K : PySem.W.Frag} {mg : Str → Option Value} {base : Heap} {f : Addr} {fd : FuncData} {c_Field : Addr} (F : Fun K "_law_zero" "_law_zero" s__law_zero f fd) (kl_Field : Cls K c_Field) (na_Field_p : NoAttr K c_Field "p") (na_Field_n : NoAttr K c_Field "n") (c__law_member : Cal P w K mg base CX0 1 "_law_member" ["p", "n", "number"] (sp__law_member K)) : FnOk P w K mg base CX0 2 f fd ["field"] (sp__law_zero K c_Field) := by
  obtain ⟨f__law_member, fd__law_member, G__law_member, g__law_member, k__law_member, b__law_member⟩ := c__law_member
  refine F.ok sc__law_zero (fun vs H Q E h => ?_) (fun cdv A outer s H0 vs Q E hr h => ?_)
  · obtain ⟨a_field, v_field, rfl, h_field, hm⟩ := h
    rfl
  · obtain ⟨a_field, v_field, rfl, h_field, hm⟩ := h
    have hm : wp (m__law_zero a_field) _ _ := hm
    unfold m__law_zero at hm
    refine ⟨_, (pss_one (ps_ret (pe_call G__law_member (hr.mono (by decide)) (by rfl) g__law_member k__law_member b__law_member .nil pass0 (pa_cons (pe_fldK (K := K) rfl (pv 0) rfl) (pa_cons (pe_fldK (K := K) rfl (pv 0) rfl) (pa_cons pe_int pa_nil)))))), ?_⟩
    have g0 := Gr.refl (A := []) H0
    refine rd_ret (rd_call (rd_cons (rd_fld (rd_var rfl (fld_Field_p h_field kl_Field na_Field_p fun v1 h2 => ?_)))))
    obtain rfl := h2
    refine rd_cons (rd_fld (rd_var rfl (fld_Field_n h_field kl_Field na_Field_n fun v3 h4 => ?_)))
    obtain rfl := h4
    refine rd_cons (rd_c (rd_nil ⟨_, _, _, rfl, wp_imp (wp_bind hm) (fun t5 hm v8 H6 g7 h9 => ?_) (fun _ e => e)⟩))
    have h_field := Imm.mono g7 h_field
    have g0 := g0.of0' g7
    exact hm _ _ g0 h9

abbrev s__law_one : Stmt := topS 54
abbrev n__law_one : List Str := ["field"]
theorem sc__law_one : FnScope n__law_one ["field"] (defScope s__law_one) := ⟨rfl, rfl, rfl, by decide +kernel, rfl, by decide +kernel, by decide +kernel⟩
def m__law_one (a_field : O_Field) : R (List Int) :=
  (m__law_member a_field.1 a_field.2.2.1 (1 : Int)).bind fun t5 => R.ok t5
def sp__law_one (K : PySem.W.Frag) (c_Field : Addr) : Sp := fun vs H Q _ => ∃ (a_field : O_Field) (v_field : V), vs = [v_field] ∧ (rO_Field K c_Field) H a_field v_field ∧ wp (m__law_one a_field) (fun r => ∀ v H', Gr [] H H' → (rT K rI) H' r v → Q v H') (fun _ => False)
theorem ok__law_one {P : Program} {w : World} {K : PySem.W.Frag} {mg : Str → Option Value} {base : Heap} {f : Addr} {fd : FuncData} {c_Field : Addr} (F : Fun K "_law_one" "_law_one" s__law_one f fd) (kl_Field : Cls K c_Field) (na_Field_p : NoAttr K c_Field "p") (na_Field_n : NoAttr K c_Field "n") (c__law_member : Cal P w K mg base CX0 1 "_law_member" ["p", "n", "number"] (sp__law_member K)) : FnOk P w K mg base CX0 2 f fd ["field"] (sp__law_one K c_Field) := by
  obtain ⟨f__law_member, fd__law_member, G__law_member, g__law_member, k__law_member, b__law_member⟩ := c__law_member
  refine F.ok sc__law_one (fun vs H Q E h => ?_) (fun cdv A outer s H0 vs Q E hr h => ?_)
  · obtain ⟨a_field, v_field, rfl, h_field, hm⟩ := h
    rfl
  · obtain ⟨a_field, v_field, rfl, h_field, hm⟩ := h
    have hm : wp (m__law_one a_field) _ _ := hm
    unfold m__law_one at hm
    refine ⟨_, (pss_one (ps_ret (pe_call G__law_member (hr.mono (by decide)) (by rfl) g__law_member k__law_member b__law_member .nil pass0 (pa_cons (pe_fldK (K := K) rfl (pv 0) rfl) (pa_cons (pe_fldK (K := K) rfl (pv 0) rfl) (pa_cons pe_int pa_nil)))))), ?_⟩
    have g0 := Gr.refl (A := []) H0
    refine rd_ret (rd_call (rd_cons (rd_fld (rd_var rfl (fld_Field_p h_field kl_Field na_Field_p fun v1 h2 => ?_)))))
    obtain rfl := h2
    refine rd_cons (rd_fld (rd_var rfl (fld_Field_n h_field kl_Field na_Field_n fun v3 h4 => ?_)))
    obtain rfl := h4
    refine rd_cons (rd_c (rd_nil ⟨_, _, _, rfl, wp_imp (wp_bind hm) (fun t5 hm v8 H6 g7 h9 => ?_) (fun _ e => e)⟩))
    have h_field := Imm.mono g7 h_field
    have g0 := g0.of0' g7
    exact hm _ _ g0 h9

abbrev s__law_times : Stmt := topS 52
abbrev n__law_times : List Str := ["field", "a", "b", "k", "row", "i", "j", "x"]
theorem sc__law_times : FnScope n__law_times ["field", "a", "b"] (defScope s__law_times) := ⟨rfl, rfl, rfl, by decide +kernel, rfl, by decide +kernel, by decide +kernel⟩
def m__law_times_b1 (s10 : List Int) (x11 : Int) : R (List Int) :=
  grd (lenLt s10) <| R.ok (s10 ++ [(0 : Int)])
def m__law_times_b2 (a_a : (List Int)) (a_b : (List Int)) (x46 : Int) (s62 : (List Int)) (x70 : Int) : R ((List Int)) :=
  (getL s62 (x46 + x70)).bind fun t77 => (getL a_a x46).bind fun t80 => (getL a_b x70).bind fun t83 => grd (CMul t80 t83) <| (setL s62 (x46 + x70) (t77 + (t80 * t83))).bind fun t87 => R.ok t87
def m__law_times_b3 (a_field : O_Field) (a_a : (List Int)) (a_b : (List Int)) (s38 : (List Int)) (x46 : Int) : R ((List Int)) :=
  (grd (rgOk a_field.2.2.1) <| foldR (m__law_times_b2 a_a a_b x46) s38 (rng 0 (a_field.2.2.1).toNat)).bind fun s57 => R.ok s57
def m__law_times_b4 (a_field : O_Field) (x117 : Int) (s135 : (List Int)) (x143 : Int) : R ((List Int)) :=
  (getL s135 ((x117 - a_field.2.2.1) + x143)).bind fun t152 => (getL s135 x117).bind fun t155 => (getL a_field.2.1 x143).bind fun t160 => grd (CMul t155 t160) <| (setL s135 ((x117 - a_field.2.2.1) + x143) (t152 - (t155 * t160))).bind fun t166 => R.ok t166
def m__law_times_b5 (a_field : O_Field) (s107 : (List Int)) (x117 : Int) : R ((List Int)) :=
  (grd (rgOk a_field.2.2.1) <| foldR (m__law_times_b4 a_field x117) s107 (rng 0 (a_field.2.2.1).toNat)).bind fun s130 => (setL s130 x117 (0 : Int)).bind fun t173 => R.ok t173
def m__law_times_b6 (a_field : O_Field) (s200 : List Int) (x201 : Int) : R (List Int) :=
  grd (0 < a_field.1) <| grd (lenLt s200) <| R.ok (s200 ++ [(x201 % a_field.1)])
def m__law_times (a_field : O_Field) (a_a : (List Int)) (a_b : (List Int)) : R (List Int) :=
  grd (rgOk ((2 : Int) * a_field.2.2.1)) <| (foldR m__law_times_b1 ([]) (rng 0 (((2 : Int) * a_field.2.2.1)).toNat)).bind fun s17 => (grd (rgOk a_field.2.2.1) <| foldR (m__law_times_b3 a_field a_a a_b) s17 (rng 0 (a_field.2.2.1).toNat)).bind fun s32 => (grd (rg3Ok (((2 : Int) * a_field.2.2.1) - (1 : Int)) (a_field.2.2.1 - (1 : Int)) (-(1 : Int))) <| foldR (m__law_times_b5 a_field) s32 (rngC (((2 : Int) * a_field.2.2.1) - (1 : Int)) (-(1 : Int)) (rg3n (((2 : Int) * a_field.2.2.1) - (1 : Int)) (a_field.2.2.1 - (1 : Int)) (-(1 : Int))))).bind fun s101 => (foldR (m__law_times_b6 a_field) ([]) (cutT s101 none (some a_field.2.2.1))).bind fun s207 => R.ok s207
def sp__law_times (K : PySem.W.Frag) (c_Field : Addr) : Sp := fun vs H Q _ => ∃ (a_field : O_Field) (v_field : V) (a_a : (List Int)) (v_a : V) (a_b : (List Int)) (v_b : V), vs = [v_field, v_a, v_b] ∧ (rO_Field K c_Field) H a_field v_field ∧ (rT K rI) H a_a v_a ∧ (rT K rI) H a_b v_b ∧ wp (m__law_times a_field a_a a_b) (fun r => ∀ v H', Gr [] H H' → (rT K rI) H' r v → Q v H') (fun _ => False)
theorem ok__law_times {P : Program} {w : World} {K : PySem.W.Frag} {mg : Str → Option Value} {base : Heap} {f : Addr} {fd : FuncData} {c_Field : Addr} (F : Fun K "_law_times" "_law_times" s__law_times f fd) (z_range : mg "range" = none) (z_tuple : mg "tuple" = none) (kl_Field : Cls K c_Field) (na_Field_n : NoAttr K c_Field "n") (na_Field_modulus : NoAttr K c_Field "modulus") (na_Field_p : NoAttr K c_Field "p") : FnOk P w K mg base CX0 1 f fd ["field", "a", "b"] (sp__law_times K c_Field) := by
  refine F.ok sc__law_times (fun vs H Q E h => ?_) (fun cdv A outer s H0 vs Q E hr h => ?_)
  · obtain ⟨a_field, v_field, a_a, v_a, a_b, v_b, rfl, h_field, h_a, h_b, hm⟩ := h
    rfl
  · obtain ⟨a_field, v_field, a_a, v_a, a_b, v_b, rfl, h_field, h_a, h_b, hm⟩ := h
    have hm : wp (m__law_times a_field a_a a_b) _ _ := hm
    unfold m__law_times at hm
    refine ⟨_, (pss_cons (ps_setLc (i := 4) (own := [("k", 3)]) (g := gName 3) (tt := tYes) rfl sc__law_times.nd rfl rfl (sw_true rfl rfl rfl (by decide +kernel)) (pi_range1 (by rfl) z_range (pa_cons (pe_op op_mul pe_int (pe_fldK (K := K) rfl (pv 0) rfl)) pa_nil)) (blkOk_by (own := [("k", 3)]) (N := n__law_times) (sc := defScope s__law_times) (by decide +kernel)) (fun _ _ _ _ _ => pg_name (i := 3) sc__law_times.nd rfl (Or.inl rfl)) (fun _ _ _ _ _ => pts_nil) (fun _ _ _ _ _ => pe_int)) (pss_cons (ps_for PassesOwn.never rfl (pi_range1 (by rfl) z_range (pa_cons (pe_fldK (K := K) rfl (pv 0) rfl) pa_nil)) (pg_name (i := 5) sc__law_times.nd rfl (Or.inl rfl)) (pss_one (ps_for PassesOwn.never rfl (pi_range1 (by rfl) z_range (pa_cons (pe_fldK (K := K) rfl (pv 0) rfl) pa_nil)) (pg_name (i := 6) sc__law_times.nd rfl (Or.inl rfl)) (pss_one (ps_asg (pe_op op_add (pe_ix (ix_listK (K := K) rfl) (pv 4) (pe_op op_add (pv 5) (pv 6)) (fun _ _ => rfl)) (pe_op op_mul (pe_ix (ix_tupK (K := K) rfl) (pv 1) (pv 5) (fun _ _ => rfl)) (pe_ix (ix_tupK (K := K) rfl) (pv 2) (pv 6) (fun _ _ => rfl)))) (pg_sub (pv 4) (pe_op op_add (pv 5) (pv 6)) set_list)))))) (pss_cons (ps_for PassesOwn.never rfl (pi_range3 (by rfl) z_range (pa_cons (pe_op op_sub (pe_op op_mul pe_int (pe_fldK (K := K) rfl (pv 0) rfl)) pe_int) (pa_cons (pe_op op_sub (pe_fldK (K := K) rfl (pv 0) rfl) pe_int) (pa_cons (pe_un un_neg pe_int) pa_nil)))) (pg_name (i := 3) sc__law_times.nd rfl (Or.inl rfl)) (pss_cons (ps_for PassesOwn.never rfl (pi_range1 (by rfl) z_range (pa_cons (pe_fldK (K := K) rfl (pv 0) rfl) pa_nil)) (pg_name (i := 6) sc__law_times.nd rfl (Or.inl rfl)) (pss_one (ps_asg (pe_op op_sub (pe_ix (ix_listK (K := K) rfl) (pv 4) (pe_op op_add (pe_op op_sub (pv 3) (pe_fldK (K := K) rfl (pv 0) rfl)) (pv 6)) (fun _ _ => rfl)) (pe_op op_mul (pe_ix (ix_listK (K := K) rfl) (pv 4) (pv 3) (fun _ _ => rfl)) (pe_ix (ix_tupK (K := K) rfl) (pe_fldK (K := K) rfl (pv 0) rfl) (pv 6) (fun _ _ => rfl)))) (pg_sub (pv 4) (pe_op op_add (pe_op op_sub (pv 3) (pe_fldK (K := K) rfl (pv 0) rfl)) (pv 6)) set_list)))) (pss_one (ps_asg pe_int (pg_sub (pv 4) (pv 3) set_list))))) (pss_one (ps_ret (pe_callTy (tupleK (K := K) rfl) (by rfl) z_tuple (by decide +kernel) (pa_cons (pe_lc (own := [("x", 7)]) (g := gName 7) (tt := tYes) rfl sc__law_times.nd (pi_listK (K := K) (pe_slice (sl_listK (K := K) rfl) (pv 4) po_none (po_some (pe_fldK (K := K) rfl (pv 0) rfl))) rfl) (blkOk_by (own := [("x", 7)]) (N := n__law_times) (sc := defScope s__law_times) (by decide +kernel)) (fun _ _ _ _ _ => pg_name (i := 7) sc__law_times.nd rfl (Or.inl rfl)) (fun _ _ _ _ _ => pts_nil) (fun _ _ _ _ _ => (pe_op op_mod (pv 7) (pe_fldK (K := K) rfl (pv 0) rfl)))) pa_nil))))))), ?_⟩
    have g0 := Gr.refl (A := []) H0
    refine rd_seq (rd_asg (rd_lc (rd_r1 (rd_cons (rd_op (rd_c (rd_fld (rd_var rfl (fld_Field_n h_field kl_Field na_Field_n fun v1 h2 => ?_)))))))))
    obtain rfl := h2
    obtain ⟨c3, hm⟩ := wp_grd hm
    refine rd_rI (.inl ⟨by decide, by decide⟩) (rd_nil ⟨_, rfl, c3.1, c3.2, fun p4 n5 => ?_⟩)
    have nw6 := Gr.free g0 n5
    refine lc_rng (lo := 0) (n := (((2 : Int) * a_field.2.2.1)).toNat) (fun (s : List Int) (H : Hp) => Gr [] H0 H ∧ Ls rI H p4 s) (wp_bind hm) ⟨Gr.new n5, ⟨[], upd_same, .nil⟩⟩ (fun x11 s10 H14 N15 hr16 hm => ?_) (fun s17 H18 hr19 hm => ?_)
    · unfold m__law_times_b1 at hm
      obtain ⟨g20, h21⟩ := hr16
      have h_field := Imm.mono g20 h_field
      have h_a := Imm.mono g20 h_a
      have h_b := Imm.mono g20 h_b
      have g0 := Gr.of0' g0 g20
      have gl22 := g20
      obtain ⟨c23, hm⟩ := wp_grd hm
      refine rd_gn ⟨rfl, rd_yes (iteT (rd_c (lc_add h21 rfl c23 fun H24 g25 h26 => ?_)))⟩
      have h_field := Imm.mono g25 h_field
      have h_a := Imm.mono g25 h_a
      have h_b := Imm.mono g25 h_b
      have g0 := Gr.loc g0 nw6 g25
      have gl22 := Gr.loc gl22 n5 g25
      exact hm _ ⟨gl22, h26⟩
    obtain ⟨g27, h28⟩ := hr19
    have h_field := Imm.mono g27 h_field
    have h_a := Imm.mono g27 h_a
    have h_b := Imm.mono g27 h_b
    have g0 := Gr.of0' g0 g27
    refine rd_gn ?_
    refine rd_nx ?_
    refine seq_join (t := tFor _ _ _) (wp_bind hm) (fun (s : (List Int)) (σ : L2.St) (H : Hp) => ∃ (o36 : Option V) (o37 : Option V), σ = [some v_field, some v_a, some v_b, none, some (.ref p4), o36, o37, none] ∧ Gr [p4] H18 H ∧ Ls rI H p4 s) (fun N30 hN31 hm => ?_) (fun s32 σ H33 hr34 hm => ?_)
    · have gl35 := Gr.refl (A := [p4]) H18
      refine rd_for (rd_r1 (rd_cons (rd_fld (rd_var rfl (fld_Field_n h_field kl_Field na_Field_n fun v42 h43 => ?_)))))
      obtain rfl := h43
      obtain ⟨c44, hm⟩ := wp_grd hm
      have gl45 := Gr.refl (A := [p4]) H18
      refine rd_nil ⟨_, rfl, c44.1, c44.2, for_rngR (lo := 0) (n := (a_field.2.2.1).toNat) (fun (s : (List Int)) (σ : L2.St) (H : Hp) => ∃ (o36 : Option V) (o37 : Option V), σ = [some v_field, some v_a, some v_b, none, some (.ref p4), o36, o37, none] ∧ Gr [p4] H18 H ∧ Ls rI H p4 s) (by exact wp_N hm (fun s σ' H' hr hz => hN31 s σ' H' hr hz)) ⟨_, _, rfl, gl45, h28⟩ (fun x46 s38 σ H39 N41 hr40 hm => ?_)⟩
      unfold m__law_times_b3 at hm
      obtain ⟨o52, o53, rfl, g50, h51⟩ := hr40
      have h_field := Imm.mono g50 h_field
      have h_a := Imm.mono g50 h_a
      have h_b := Imm.mono g50 h_b
      have g0 := Gr.many g0 (all1 ((.inr nw6)) all0) g50
      have gl45 := Gr.many gl45 (all1 ((.inl (by simp))) all0) g50
      refine nx_join (t := tFor _ _ _) (wp_bind hm) (fun (s : (List Int)) (σ : L2.St) (H : Hp) => ∃ (o61 : Option V), σ = [some v_field, some v_a, some v_b, none, some (.ref p4), some (.int x46), o61, none] ∧ Gr [p4] H39 H ∧ Ls rI H p4 s) (fun N55 hN56 hm => ?_) (fun s57 σ H58 hr59 hm => ?_)
      · have gl60 := Gr.refl (A := [p4]) H39
        refine rd_gn (rd_for (rd_r1 (rd_cons (rd_fld (rd_var rfl (fld_Field_n h_field kl_Field na_Field_n fun v66 h67 => ?_))))))
        obtain rfl := h67
        obtain ⟨c68, hm⟩ := wp_grd hm
        have gl69 := Gr.refl (A := [p4]) H39
        refine rd_nil ⟨_, rfl, c68.1, c68.2, for_rngR (lo := 0) (n := (a_field.2.2.1).toNat) (fun (s : (List Int)) (σ : L2.St) (H : Hp) => ∃ (o61 : Option V), σ = [some v_field, some v_a, some v_b, none, some (.ref p4), some (.int x46), o61, none] ∧ Gr [p4] H39 H ∧ Ls rI H p4 s) (by exact wp_N hm (fun s σ' H' hr hz => hN56 s σ' H' hr hz)) ⟨_, rfl, gl69, h51⟩ (fun x70 s62 σ H63 N65 hr64 hm => ?_)⟩
        unfold m__law_times_b2 at hm
        obtain ⟨o76, rfl, g74, h75⟩ := hr64
        have h_field := Imm.mono g74 h_field
        have h_a := Imm.mono g74 h_a
        have h_b := Imm.mono g74 h_b
        have g0 := Gr.many g0 (all1 ((.inr nw6)) all0) g74
        have gl45 := Gr.many gl45 (all1 ((.inl (by simp))) all0) g74
        have gl69 := Gr.many gl69 (all1 ((.inl (by simp))) all0) g74
        refine rd_gn (rd_asg (rd_op (rd_op (rd_var rfl (rd_op (rd_var rfl (rd_var rfl (rd_rI0 (ix_L (Ls.q h75) (wp_bind hm) fun t77 v78 h79 hm => ?_)))))))))
        obtain rfl := h79
        refine rd_op (rd_op (rd_var rfl (rd_var rfl (ix_T h_a (wp_bind hm) fun t80 v81 h82 hm => ?_))))
        obtain rfl := h82
        refine rd_op (rd_var rfl (rd_var rfl (ix_T h_b (wp_bind hm) fun t83 v84 h85 hm => ?_)))
        obtain rfl := h85
        obtain ⟨c86, hm⟩ := wp_grd hm
        refine rd_rI (c86) (rd_rI0 (rd_gs (rd_var rfl (rd_op (rd_var rfl (rd_var rfl (rd_rI0 (rd_set h75 rfl (wp_bind hm) fun t87 H88 g89 h90 hm => ?_))))))))
        have h_field := Imm.mono g89 h_field
        have h_a := Imm.mono g89 h_a
        have h_b := Imm.mono g89 h_b
        have g0 := Gr.loc g0 nw6 g89
        have gl45 := Gr.at1 gl45 (by simp) g89
        have gl69 := Gr.at1 gl69 (by simp) g89
        exact hm _ _ ⟨_, rfl, gl69, h90⟩
      obtain ⟨o93, rfl, g91, h92⟩ := hr59
      have h_field := Imm.mono g91 h_field
      have h_a := Imm.mono g91 h_a
      have h_b := Imm.mono g91 h_b
      have g0 := Gr.many g0 (all1 ((.inr nw6)) all0) g91
      have gl45 := Gr.many gl45 (all1 ((.inl (by simp))) all0) g91
      exact hm _ _ ⟨_, _, rfl, gl45, h92⟩
    obtain ⟨o96, o97, rfl, g94, h95⟩ := hr34
    have h_field := Imm.mono g94 h_field
    have h_a := Imm.mono g94 h_a
    have h_b := Imm.mono g94 h_b
    have g0 := Gr.many g0 (all1 ((.inr nw6)) all0) g94
    refine seq_join (t := tFor _ _ _) (wp_bind hm) (fun (s : (List Int)) (σ : L2.St) (H : Hp) => ∃ (o105 : Option V) (o106 : Option V), σ = [some v_field, some v_a, some v_b, o105, some (.ref p4), o96, o106, none] ∧ Gr [p4] H33 H ∧ Ls rI H p4 s) (fun N99 hN100 hm => ?_) (fun s101 σ H102 hr103 hm => ?_)
    · have gl104 := Gr.refl (A := [p4]) H33
      refine rd_for (rd_r3 (rd_cons (rd_op (rd_op (rd_c (rd_fld (rd_var rfl (fld_Field_n h_field kl_Field na_Field_n fun v111 h112 => ?_))))))))
      obtain rfl := h112
      refine rd_rI (.inl ⟨by decide, by decide⟩) (rd_c (rd_rI0 (rd_cons (rd_op (rd_fld (rd_var rfl (fld_Field_n h_field kl_Field na_Field_n fun v113 h114 => ?_)))))))
      obtain rfl := h114
      obtain ⟨c115, hm⟩ := wp_grd hm
      have gl116 := Gr.refl (A := [p4]) H33
      refine rd_c (rd_rI0 (rd_cons (rd_un (rd_c (rd_rU (rd_nil ⟨_, _, _, _, rfl, rg3_of c115, for_R (r := rI) (H0 := H33) wk_rngC (fun (s : (List Int)) (σ : L2.St) (H : Hp) => ∃ (o105 : Option V) (o106 : Option V), σ = [some v_field, some v_a, some v_b, o105, some (.ref p4), o96, o106, none] ∧ Gr [p4] H33 H ∧ Ls rI H p4 s) (by exact wp_N hm (fun s σ' H' hr hz => hN100 s σ' H' hr hz)) ⟨_, _, rfl, gl116, h95⟩ (fun _ _ _ hr => by obtain ⟨_, _, _, g, _⟩ := hr; exact ⟨trivial, _, g⟩) (fun x117 v118 s107 σ H108 H120 N110 hr109 hg121 hx119 hm => ?_)⟩))))))
      unfold m__law_times_b5 at hm
      obtain ⟨o124, o126, rfl, g123, h125⟩ := hr109
      have h_field := Imm.mono g123 h_field
      have g0 := Gr.many g0 (all1 ((.inr nw6)) all0) g123
      have gl116 := Gr.many gl116 (all1 ((.inl (by simp))) all0) g123
      have h_field := Imm.mono hg121 h_field
      have h125 := Ls.g0 hg121 h125
      have g0 := g0.of0' hg121
      have gl116 := gl116.of0' hg121
      obtain rfl := hx119
      refine seq_join (t := tFor _ _ _) (wp_bind hm) (fun (s : (List Int)) (σ : L2.St) (H : Hp) => ∃ (o134 : Option V), σ = [some v_field, some v_a, some v_b, some (.int x117), some (.ref p4), o96, o134, none] ∧ Gr [p4] H120 H ∧ Ls rI H p4 s) (fun N128 hN129 hm => ?_) (fun s130 σ H131 hr132 hm => ?_)
      · have gl133 := Gr.refl (A := [p4]) H120
        refine rd_gn (rd_for (rd_r1 (rd_cons (rd_fld (rd_var rfl (fld_Field_n h_field kl_Field na_Field_n fun v139 h140 => ?_))))))
        obtain rfl := h140
        obtain ⟨c141, hm⟩ := wp_grd hm
        have gl142 := Gr.refl (A := [p4]) H120
        refine rd_nil ⟨_, rfl, c141.1, c141.2, for_rngR (lo := 0) (n := (a_field.2.2.1).toNat) (fun (s : (List Int)) (σ : L2.St) (H : Hp) => ∃ (o134 : Option V), σ = [some v_field, some v_a, some v_b, some (.int x117), some (.ref p4), o96, o134, none] ∧ Gr [p4] H120 H ∧ Ls rI H p4 s) (by exact wp_N hm (fun s σ' H' hr hz => hN129 s σ' H' hr hz)) ⟨_, rfl, gl142, h125⟩ (fun x143 s135 σ H136 N138 hr137 hm => ?_)⟩
        unfold m__law_times_b4 at hm
        obtain ⟨o149, rfl, g147, h148⟩ := hr137
        have h_field := Imm.mono g147 h_field
        have g0 := Gr.many g0 (all1 ((.inr nw6)) all0) g147
        have gl116 := Gr.many gl116 (all1 ((.inl (by simp))) all0) g147
        have gl142 := Gr.many gl142 (all1 ((.inl (by simp))) all0) g147
        refine rd_gn (rd_asg (rd_op (rd_op (rd_var rfl (rd_op (rd_op (rd_var rfl (rd_fld (rd_var rfl (fld_Field_n h_field kl_Field na_Field_n fun v150 h151 => ?_))))))))))
        obtain rfl := h151
        refine rd_rI0 (rd_var rfl (rd_rI0 (ix_L (Ls.q h148) (wp_bind hm) fun t152 v153 h154 hm => ?_)))
        obtain rfl := h154
        refine rd_op (rd_op (rd_var rfl (rd_var rfl (ix_L (Ls.q h148) (wp_bind hm) fun t155 v156 h157 hm => ?_))))
        obtain rfl := h157
        refine rd_op (rd_fld (rd_var rfl (fld_Field_modulus h_field kl_Field na_Field_modulus fun v158 h159 => ?_)))
        refine rd_var rfl (ix_T h159 (wp_bind hm) fun t160 v161 h162 hm => ?_)
        obtain rfl := h162
        obtain ⟨c163, hm⟩ := wp_grd hm
        refine rd_rI (c163) (rd_rI0 (rd_gs (rd_var rfl (rd_op (rd_op (rd_var rfl (rd_fld (rd_var rfl (fld_Field_n h_field kl_Field na_Field_n fun v164 h165 => ?_)))))))))
        obtain rfl := h165
        refine rd_rI0 (rd_var rfl (rd_rI0 (rd_set h148 rfl (wp_bind hm) fun t166 H167 g168 h169 hm => ?_)))
        have h_field := Imm.mono g168 h_field
        have g0 := Gr.loc g0 nw6 g168
        have gl116 := Gr.at1 gl116 (by simp) g168
        have gl142 := Gr.at1 gl142 (by simp) g168
        exact hm _ _ ⟨_, rfl, gl142, h169⟩
      obtain ⟨o172, rfl, g170, h171⟩ := hr132
      have h_field := Imm.mono g170 h_field
      have g0 := Gr.many g0 (all1 ((.inr nw6)) all0) g170
      have gl116 := Gr.many gl116 (all1 ((.inl (by simp))) all0) g170
      refine rd_asg (rd_c (rd_gs (rd_var rfl (rd_var rfl (rd_set h171 rfl (wp_bind hm) fun t173 H174 g175 h176 hm => ?_)))))
      have h_field := Imm.mono g175 h_field
      have g0 := Gr.loc g0 nw6 g175
      have gl116 := Gr.at1 gl116 (by simp) g175
      exact hm _ _ ⟨_, _, rfl, gl116, h176⟩
    obtain ⟨o178, o180, rfl, g177, h179⟩ := hr103
    have h_field := Imm.mono g177 h_field
    have g0 := Gr.many g0 (all1 ((.inr nw6)) all0) g177
    refine rd_ret (rd_cb (rd_cons (rd_lc (rd_il (rd_sl (rd_var rfl (rd_np (rd_part (rd_fld (rd_var rfl (fld_Field_n h_field kl_Field na_Field_n fun v181 h182 => ?_)))))))))))
    obtain rfl := h182
    refine rd_kI (cut_L (K := K) (Ls.q h179) fun p183 H184 n185 g186 h187 => ?_)
    have ne188 : p4 ≠ p183 := Ls.ne h179 n185
    have nw189 := Gr.free g0 n185
    have h_field := Imm.mono g186 h_field
    have h179 := Ls.g0 g186 h179
    have g0 := g0.of0' g186
    obtain ⟨vs190, hl191, hp192⟩ := id (Ls.q h187)
    refine ⟨_, rfl, ⟨_, hl191⟩, fun p193 n194 => ?_⟩
    have ne195 : p4 ≠ p193 := Ls.ne h179 n194
    have nw196 := Gr.free g0 n194
    refine lc_lst (r := rI) (H1 := H184) (fun (s : List Int) (H : Hp) => Gr [] H184 H ∧ Ls rI H p193 s) hp192 (wp_bind hm) ⟨Gr.new n194, ⟨[], upd_same, .nil⟩⟩ (fun _ _ hr => by obtain ⟨g, _⟩ := hr; exact g.lst nin0 hl191) (fun x201 v202 s200 H204 N205 hx203 hr206 hm => ?_) (fun s207 H208 hr209 hm => ?_)
    · unfold m__law_times_b6 at hm
      obtain ⟨g210, h211⟩ := hr206
      have h_field := Imm.mono g210 h_field
      have h179 := Ls.gA g210 nin0 h179
      have g0 := Gr.of0' g0 g210
      have gl212 := g210
      obtain rfl := hx203
      refine rd_gn ⟨rfl, rd_yes (iteT (rd_op (rd_var rfl (rd_fld (rd_var rfl (fld_Field_p h_field kl_Field na_Field_p fun v213 h214 => ?_))))))⟩
      obtain rfl := h214
      obtain ⟨c215, hm⟩ := wp_grd hm
      obtain ⟨c216, hm⟩ := wp_grd hm
      refine rd_rI c215 (lc_add h211 rfl c216 fun H217 g218 h219 => ?_)
      have h_field := Imm.mono g218 h_field
      have h179 := Ls.g1 g218 ne195 h179
      have g0 := Gr.loc g0 nw196 g218
      have gl212 := Gr.loc gl212 n194 g218
      exact hm _ ⟨gl212, h219⟩
    obtain ⟨g220, h221⟩ := hr209
    have h_field := Imm.mono g220 h_field
    have h179 := Ls.gA g220 nin0 h179
    have g0 := Gr.of0' g0 g220
    refine rd_nil (tup_of_L (K := K) (Ls.q h221) fun v222 H223 g224 h225 => ?_)
    have h_field := Imm.mono g224 h_field
    have h179 := Ls.g0 g224 h179
    have g0 := g0.of0' g224
    exact hm _ _ g0 h225

abbrev s__law_add : Stmt := topS 51
abbrev n__law_add : List Str := ["field", "a", "b", "k"]
theorem sc__law_add : FnScope n__law_add ["field", "a", "b"] (defScope s__law_add) := ⟨rfl, rfl, rfl, by decide +kernel, rfl, by decide +kernel, by decide +kernel⟩
def m__law_add_b1 (a_field : O_Field) (a_a : (List Int)) (a_b : (List Int)) (s10 : List Int) (x11 : Int) : R (List Int) :=
  (getL a_a x11).bind fun t23 => (getL a_b x11).bind fun t26 => grd (0 < a_field.1) <| grd (lenLt s10) <| R.ok (s10 ++ [((t23 + t26) % a_field.1)])
def m__law_add (a_field : O_Field) (a_a : (List Int)) (a_b : (List Int)) : R (List Int) :=
  grd (rgOk a_field.2.2.1) <| (foldR (m__law_add_b1 a_field a_a a_b) ([]) (rng 0 (a_field.2.2.1).toNat)).bind fun s17 => R.ok s17
def sp__law_add (K : PySem.W.Frag) (c_Field : Addr) : Sp := fun vs H Q _ => ∃ (a_field : O_Field) (v_field : V) (a_a : (List Int)) (v_a : V) (a_b : (List Int)) (v_b : V), vs = [v_field, v_a, v_b] ∧ (rO_Field K c_Field) H a_field v_field ∧ (rT K rI) H a_a v_a ∧ (rT K rI) H a_b v_b ∧ wp (m__law_add a_field a_a a_b) (fun r => ∀ v H', Gr [] H H' → (rT K rI) H' r v → Q v H') (fun _ => False)
theorem ok__law_add {P : Program} {w : World} {K : PySem.W.Frag} {mg : Str → Option Value} {base : Heap} {f : Addr} {fd : FuncData} {c_Field : Addr} (F : Fun K "_law_add" "_law_add" s__law_add f fd) (z_range : mg "range" = none) (z_tuple : mg "tuple" = none) (kl_Field : Cls K c_Field) (na_Field_n : NoAttr K c_Field "n") (na_Field_p : NoAttr K c_Field "p") : FnOk P w K mg base CX0 1 f fd ["field", "a", "b"] (sp__law_add K c_Field) := by
  refine F.ok sc__law_add (fun vs H Q E h => ?_) (fun cdv A outer s H0 vs Q E hr h => ?_)
  · obtain ⟨a_field, v_field, a_a, v_a, a_b, v_b, rfl, h_field, h_a, h_b, hm⟩ := h
    rfl
  · obtain ⟨a_field, v_field, a_a, v_a, a_b, v_b, rfl, h_field, h_a, h_b, hm⟩ := h
    have hm : wp (m__law_add a_field a_a a_b) _ _ := hm
    unfold m__law_add at hm
    refine ⟨_, (pss_one (ps_ret (pe_callTy (tupleK (K := K) rfl) (by rfl) z_tuple (by decide +kernel) (pa_cons (pe_lc (own := [("k", 3)]) (g := gName 3) (tt := tYes) rfl sc__law_add.nd (pi_range1 (by rfl) z_range (pa_cons (pe_fldK (K := K) rfl (pv 0) rfl) pa_nil)) (blkOk_by (own := [("k", 3)]) (N := n__law_add) (sc := defScope s__law_add) (by decide +kernel)) (fun _ _ _ _ _ => pg_name (i := 3) sc__law_add.nd rfl (Or.inl rfl)) (fun _ _ _ _ _ => pts_nil) (fun _ _ _ _ _ => (pe_op op_mod (pe_op op_add (pe_ix (ix_tupK (K := K) rfl) (pv 1) (pv 3) (fun _ _ => rfl)) (pe_ix (ix_tupK (K := K) rfl) (pv 2) (pv 3) (fun _ _ => rfl))) (pe_fldK (K := K) rfl (pv 0) rfl)))) pa_nil)))), ?_⟩
    have g0 := Gr.refl (A := []) H0
    refine rd_ret (rd_cb (rd_cons (rd_lc (rd_r1 (rd_cons (rd_fld (rd_var rfl (fld_Field_n h_field kl_Field na_Field_n fun v1 h2 => ?_))))))))
    obtain rfl := h2
    obtain ⟨c3, hm⟩ := wp_grd hm
    refine rd_nil ⟨_, rfl, c3.1, c3.2, fun p4 n5 => ?_⟩
    have nw6 := Gr.free g0 n5
    refine lc_rng (lo := 0) (n := (a_field.2.2.1).toNat) (fun (s : List Int) (H : Hp) => Gr [] H0 H ∧ Ls rI H p4 s) (wp_bind hm) ⟨Gr.new n5, ⟨[], upd_same, .nil⟩⟩ (fun x11 s10 H14 N15 hr16 hm => ?_) (fun s17 H18 hr19 hm => ?_)
    · unfold m__law_add_b1 at hm
      obtain ⟨g20, h21⟩ := hr16
      have h_field := Imm.mono g20 h_field
      have h_a := Imm.mono g20 h_a
      have h_b := Imm.mono g20 h_b
      have g0 := Gr.of0' g0 g20
      have gl22 := g20
      refine rd_gn ⟨rfl, rd_yes (iteT (rd_op (rd_op (rd_op (rd_var rfl (rd_var rfl (ix_T h_a (wp_bind hm) fun t23 v24 h25 hm => ?_)))))))⟩
      obtain rfl := h25
      refine rd_op (rd_var rfl (rd_var rfl (ix_T h_b (wp_bind hm) fun t26 v27 h28 hm => ?_)))
      obtain rfl := h28
      refine rd_rI0 (rd_fld (rd_var rfl (fld_Field_p h_field kl_Field na_Field_p fun v29 h30 => ?_)))
      obtain rfl := h30
      obtain ⟨c31, hm⟩ := wp_grd hm
      obtain ⟨c32, hm⟩ := wp_grd hm
      refine rd_rI c31 (lc_add h21 rfl c32 fun H33 g34 h35 => ?_)
      have h_field := Imm.mono g34 h_field
      have h_a := Imm.mono g34 h_a
      have h_b := Imm.mono g34 h_b
      have g0 := Gr.loc g0 nw6 g34
      have gl22 := Gr.loc gl22 n5 g34
      exact hm _ ⟨gl22, h35⟩
    obtain ⟨g36, h37⟩ := hr19
    have h_field := Imm.mono g36 h_field
    have h_a := Imm.mono g36 h_a
    have h_b := Imm.mono g36 h_b
    have g0 := Gr.of0' g0 g36
    refine rd_nil (tup_of_L (K := K) (Ls.q h37) fun v38 H39 g40 h41 => ?_)
    have h_field := Imm.mono g40 h_field
    have h_a := Imm.mono g40 h_a
    have h_b := Imm.mono g40 h_b
    have g0 := g0.of0' g40
    exact hm _ _ g0 h41

abbrev s__law_value : Stmt := topS 55
abbrev n__law_value : List Str := ["field", "row", "a", "total", "k"]
theorem sc__law_value : FnScope n__law_value ["field", "row", "a"] (defScope s__law_value) := ⟨rfl, rfl, rfl, by decide +kernel, rfl, by decide +kernel, by decide +kernel⟩
def m__law_value_b1 (a_field : O_Field) (a_row : (List (List Int))) (a_a : (List Int)) (s15 : (List Int)) (x21 : Int) : R ((List Int)) :=
  (m__law_times a_field s15 a_a).bind fun t29 => (getL a_row ((-(1 : Int)) - x21)).bind fun t34 => (m__law_add a_field t29 t34).bind fun t37 => R.ok t37
def m__law_value (a_field : O_Field) (a_row : (List (List Int))) (a_a : (List Int)) : R (List Int) :=
  (m__law_zero a_field).bind fun t1 => (grd (rgOk ((a_row).length : Int)) <| foldR (m__law_value_b1 a_field a_row a_a) t1 (rng 0 (((a_row).length : Int)).toNat)).bind fun s9 => R.ok s9
def sp__law_value (K : PySem.W.Frag) (c_Field : Addr) : Sp := fun vs H Q _ => ∃ (a_field : O_Field) (v_field : V) (a_row : (List (List Int))) (p_row : Addr) (a_a : (List Int)) (v_a : V), vs = [v_field, .ref p_row, v_a] ∧ (rO_Field K c_Field) H a_field v_field ∧ Ls (rT K rI) H p_row a_row ∧ (rT K rI) H a_a v_a ∧ wp (m__law_value a_field a_row a_a) (fun r => ∀ v H', Gr [] H H' → (rT K rI) H' r v → Q v H') (fun _ => False)
theorem ok__law_value {P : Program} {w : World} {K : PySem.W.Frag} {mg : Str → Option Value} {base : Heap} {f : Addr} {fd : FuncData} {c_Field : Addr} (F : Fun K "_law_value" "_law_value" s__law_value f fd) (z_len : mg "len" = none) (z_range : mg "range" = none) (c__law_zero : Cal P w K mg base CX0 2 "_law_zero" ["field"] (sp__law_zero K c_Field)) (c__law_times : Cal P w K mg base CX0 1 "_law_times" ["field", "a", "b"] (sp__law_times K c_Field)) (c__law_add : Cal P w K mg base CX0 1 "_law_add" ["field", "a", "b"] (sp__law_add K c_Field)) : FnOk P w K mg base CX0 3 f fd ["field", "row", "a"] (sp__law_value K c_Field) := by
  obtain ⟨f__law_zero, fd__law_zero, G__law_zero, g__law_zero, k__law_zero, b__law_zero⟩ := c__law_zero
  obtain ⟨f__law_times, fd__law_times, G__law_times, g__law_times, k__law_times, b__law_times⟩ := c__law_times
  obtain ⟨f__law_add, fd__law_add, G__law_add, g__law_add, k__law_add, b__law_add⟩ := c__law_add
  refine F.ok sc__law_value (fun vs H Q E h => ?_) (fun cdv A outer s H0 vs Q E hr h => ?_)
  · obtain ⟨a_field, v_field, a_row, p_row, a_a, v_a, rfl, h_field, h_row, h_a, hm⟩ := h
    rfl
  · obtain ⟨a_field, v_field, a_row, p_row, a_a, v_a, rfl, h_field, h_row, h_a, hm⟩ := h
    have hm : wp (m__law_value a_field a_row a_a) _ _ := hm
    unfold m__law_value at hm
    refine ⟨_, (pss_cons (ps_set (i := 3) sc__law_value.nd rfl (Or.inl rfl) (pe_call G__law_zero (hr.mono (by decide)) (by rfl) g__law_zero k__law_zero b__law_zero .nil pass0 (pa_cons (pv 0) pa_nil))) (pss_cons (ps_for PassesOwn.never rfl (pi_range1 (by rfl) z_range (pa_cons (pe_callB (lenK (K := K) rfl) (by rfl) z_len PySem.boot_len (pa_cons (pv 1) pa_nil)) pa_nil)) (pg_name (i := 4) sc__law_value.nd rfl (Or.inl rfl)) (pss_one (ps_set (i := 3) sc__law_value.nd rfl (Or.inl rfl) (pe_call G__law_add (hr.mono (by decide)) (by rfl) g__law_add k__law_add b__law_add .nil pass0 (pa_cons (pv 0) (pa_cons (pe_call G__law_times (hr.mono (by decide)) (by rfl) g__law_times k__law_times b__law_times .nil pass0 (pa_cons (pv 0) (pa_cons (pv 3) (pa_cons (pv 2) pa_nil)))) (pa_cons (pe_ix (ix_listK (K := K) rfl) (pv 1) (pe_op op_sub (pe_un un_neg pe_int) (pv 4)) (fun _ _ => rfl)) pa_nil))))))) (pss_one (ps_ret (pv 3))))), ?_⟩
    have g0 := Gr.refl (A := []) H0
    refine rd_seq (rd_asg (rd_call (rd_cons (rd_var rfl (rd_nil ⟨_, _, rfl, h_field, wp_imp (wp_bind hm) (fun t1 hm v4 H2 g3 h5 => ?_) (fun _ e => e)⟩)))))
    have h_field := Imm.mono g3 h_field
    have h_row := Ls.g0 g3 h_row
    have h_a := Imm.mono g3 h_a
    have g0 := g0.of0' g3
    refine rd_gn ?_
    refine rd_nx ?_
    refine seq_join (t := tFor _ _ _) (wp_bind hm) (fun (s : (List Int)) (σ : L2.St) (H : Hp) => ∃ (w13 : V) (o14 : Option V), σ = [some v_field, some (.ref p_row), some v_a, some w13, o14] ∧ Gr [] H2 H ∧ (rT K rI) H s w13) (fun N7 hN8 hm => ?_) (fun s9 σ H10 hr11 hm => ?_)
    · have gl12 := Gr.refl (A := []) H2
      obtain ⟨c19, hm⟩ := wp_grd hm
      have gl20 := Gr.refl (A := []) H2
      refine rd_for (rd_r1 (rd_cons (rd_cb (rd_cons (rd_var rfl (rd_nil (len_L (Ls.q h_row) (rd_nil ⟨_, rfl, c19.1, c19.2, for_rngR (lo := 0) (n := (((a_row).length : Int)).toNat) (fun (s : (List Int)) (σ : L2.St) (H : Hp) => ∃ (w13 : V) (o14 : Option V), σ = [some v_field, some (.ref p_row), some v_a, some w13, o14] ∧ Gr [] H2 H ∧ (rT K rI) H s w13) (by exact wp_N hm (fun s σ' H' hr hz => hN8 s σ' H' hr hz)) ⟨_, _, rfl, gl20, h5⟩ (fun x21 s15 σ H16 N18 hr17 hm => ?_)⟩))))))))
      unfold m__law_value_b1 at hm
      obtain ⟨w26, o28, rfl, g25, h27⟩ := hr17
      have h_field := Imm.mono g25 h_field
      have h_row := Ls.gA g25 nin0 h_row
      have h_a := Imm.mono g25 h_a
      have g0 := Gr.of0' g0 g25
      have gl20 := Gr.of0' gl20 g25
      refine rd_gn (rd_asg (rd_call (rd_cons (rd_var rfl (rd_cons (rd_call (rd_cons (rd_var rfl (rd_cons (rd_var rfl (rd_cons (rd_var rfl (rd_nil ⟨_, _, _, _, _, _, rfl, h_field, h27, h_a, wp_imp (wp_bind hm) (fun t29 hm v32 H30 g31 h33 => ?_) (fun _ e => e)⟩)))))))))))))
      have h_field := Imm.mono g31 h_field
      have h_row := Ls.g0 g31 h_row
      have h_a := Imm.mono g31 h_a
      have h27 := Imm.mono g31 h27
      have g0 := g0.of0' g31
      have gl20 := gl20.of0' g31
      refine rd_cons (rd_op (rd_var rfl (rd_op (rd_un (rd_c (rd_rU (rd_var rfl (rd_rI0 (ix_L (Ls.q h_row) (wp_bind hm) fun t34 v35 h36 hm => ?_)))))))))
      refine rd_nil ⟨_, _, _, _, _, _, rfl, h_field, h33, h36, wp_imp (wp_bind hm) (fun t37 hm v40 H38 g39 h41 => ?_) (fun _ e => e)⟩
      have h_field := Imm.mono g39 h_field
      have h_row := Ls.g0 g39 h_row
      have h_a := Imm.mono g39 h_a
      have h27 := Imm.mono g39 h27
      have g0 := g0.of0' g39
      have gl20 := gl20.of0' g39
      refine rd_gn ?_
      exact hm _ _ ⟨_, _, rfl, gl20, h41⟩
    obtain ⟨w43, o45, rfl, g42, h44⟩ := hr11
    have h_field := Imm.mono g42 h_field
    have h_row := Ls.gA g42 nin0 h_row
    have h_a := Imm.mono g42 h_a
    have g0 := Gr.of0' g0 g42
    exact rd_ret (rd_var rfl (hm _ _ g0 h44))

abbrev s_Field_is_member : Stmt := inClass (topS 28) 2
abbrev n_Field_is_member : List Str := ["self", "value", "item"]
theorem sc_Field_is_member : FnScope n_Field_is_member ["self", "value"] (defScope s_Field_is_member) := ⟨rfl, rfl, rfl, by decide +kernel, rfl, by decide +kernel, by decide +kernel⟩
def m_Field_is_member_b1 (a_self : O_Field) (s22 : List Bool) (x23 : Int) : R (List Bool) :=
  (andR ((m_is_integer (V.int x23)).bind fun t37 => R.ok t37) (R.ok ((decide ((0 : Int) ≤ x23)) && (decide (x23 < a_self.1))))).bind fun t43 => grd (lenLt s22) <| R.ok (s22 ++ [t43])
def m_Field_is_member (a_self : O_Field) (a_value : (List Int)) : R Bool :=
  (orR (R.ok (!true)) (R.ok (!decide (((a_value).length : Int) = a_self.2.2.1)))).bind fun t7 => if t7 = true then (R.ok false) else ((foldR (m_Field_is_member_b1 a_self) ([]) a_value).bind fun s29 => R.ok ((s29).all id))
def sp_Field_is_member (K : PySem.W.Frag) (c_Field : Addr) : Sp := fun vs H Q _ => ∃ (a_self : O_Field) (v_self : V) (a_value : (List Int)) (v_value : V), vs = [v_self, v_value] ∧ (rO_Field K c_Field) H a_self v_self ∧ (rT K rI) H a_value v_value ∧ wp (m_Field_is_member a_self a_value) (fun r => ∀ H', Gr [] H H' → Q (.bl r) H') (fun _ => False)
theorem ok_Field_is_member {P : Program} {w : World} {K : PySem.W.Frag} {mg : Str → Option Value} {base : Heap} {f : Addr} {fd : FuncData} {c_Field : Addr} (F : Fun K "is_member" "Field.is_member" s_Field_is_member f fd) (z_isinstance : mg "isinstance" = none) (z_tuple : mg "tuple" = none) (z_len : mg "len" = none) (z_all : mg "all" = none) (kl_Field : Cls K c_Field) (na_Field_n : NoAttr K c_Field "n") (na_Field_p : NoAttr K c_Field "p") (c_is_integer : Cal P w K mg base CX0 1 "is_integer" ["value"] (sp_is_integer K)) : FnOk P w K mg base CX0 2 f fd ["self", "value"] (sp_Field_is_member K c_Field) := by
  obtain ⟨f_is_integer, fd_is_integer, G_is_integer, g_is_integer, k_is_integer, b_is_integer⟩ := c_is_integer
  refine F.ok sc_Field_is_member (fun vs H Q E h => ?_) (fun cdv A outer s H0 vs Q E hr h => ?_)
  · obtain ⟨a_self, v_self, a_value, v_value, rfl, h_self, h_value, hm⟩ := h
    rfl
  · obtain ⟨a_self, v_self, a_value, v_value, rfl, h_self, h_value, hm⟩ := h
    have hm : wp (m_Field_is_member a_self a_value) _ _ := hm
    unfold m_Field_is_member at hm
    refine ⟨_, (pss_cons (ps_if (PW.pt (pw_or (pt_not (pt_val (pe_callB (isiK (K := K) rfl) (by rfl) z_isinstance (by decide +kernel) (pa_cons (pv 1) (pa_cons (pe_bltn (by rfl) z_tuple (by decide +kernel) (show L2.RelV (.ty "tuple") (.type "tuple") from rfl)) pa_nil))))) (pw_or1 (pt_cmpR op_neI (pe_callB (lenK (K := K) rfl) (by rfl) z_len PySem.boot_len (pa_cons (pv 1) pa_nil)) (pe_fldK (K := K) rfl (pv 0) rfl) (nomark _))))) (pss_one (ps_ret pe_bl)) pss_nil) (pss_one (ps_ret (pe_callB (allK (K := K) rfl rfl) (by rfl) z_all (by decide +kernel) (pa_cons (pe_lc (own := [("item", 2)]) (g := gName 2) (tt := tYes) rfl sc_Field_is_member.nd (pi_tupK (K := K) (pv 1) rfl) (blkOk_by (own := [("item", 2)]) (N := n_Field_is_member) (sc := defScope s_Field_is_member) (by decide +kernel)) (fun _ _ _ _ _ => pg_name (i := 2) sc_Field_is_member.nd rfl (Or.inl rfl)) (fun _ _ _ _ _ => pts_nil) (fun _ _ _ _ _ => (pe_and (pe_call G_is_integer (hr.mono (by decide)) (by rfl) g_is_integer k_is_integer b_is_integer .nil pass0 (pa_cons (pv 2) pa_nil)) (pe_one (pe_chain op_le op_lt pe_int (pv 2) (pe_fldK (K := K) rfl (pv 0) rfl)))))) pa_nil))))), ?_⟩
    have g0 := Gr.refl (A := []) H0
    refine rd_seq (rd_if ((ev_or (fun Q hm => by
        have gb1 := Gr.refl (A := []) H0
        exact rd_not (rd_B (rd_cb (rd_cons (rd_var rfl (rd_cons (rd_c (rd_nil (isi_ty (S := "tuple") (b := true) (ty_T h_value) (by decide +kernel) (rd_kB (hm _ gb1))))))))))) (fun H2 g3 Q hm => by
        have h_self := Imm.mono g3 h_self
        have h_value := Imm.mono g3 h_value
        have g0 := g0.of0' g3
        have gb4 := Gr.refl (A := []) H2
        refine rd_T (rd_op (rd_cb (rd_cons (rd_var rfl (rd_nil (len_T h_value (rd_fld (rd_var rfl (fld_Field_n h_self kl_Field na_Field_n fun v5 h6 => ?_)))))))))
        obtain rfl := h6
        exact rd_rI0 (rd_kB (hm _ gb4)))) _ (wp_imp (wp_bind hm) (fun t7 hm H8 g9 => ?_) (fun _ e => e))))
    have h_self := Imm.mono g9 h_self
    have h_value := Imm.mono g9 h_value
    have g0 := g0.of0' g9
    refine iteB (fun e10 => ?_) (fun e10 => ?_)
    · have hm := ifT e10 (wp_iteB hm)
      exact rd_ret (rd_c (hm _ g0))
    have hm := ifF e10 (wp_iteB hm)
    refine rd_next (rd_nx ?_)
    obtain ⟨a14, ea15, vs11, hl12, hp13⟩ := id h_value
    refine rd_ret (rd_cb (rd_cons (rd_lc (rd_it (rd_var rfl ⟨_, ea15, ⟨_, hl12⟩, fun p16 n17 => ?_⟩)))))
    have nw18 := Gr.free g0 n17
    refine lc_tup (r := rI) (H1 := H8) (fun (s : List Bool) (H : Hp) => Gr [] H8 H ∧ Ls rB H p16 s) hp13 (wp_bind hm) ⟨Gr.new n17, ⟨[], upd_same, .nil⟩⟩ (fun _ _ hr => by obtain ⟨g, _⟩ := hr; exact g.tup hl12) (fun x23 v24 s22 H26 N27 hx25 hr28 hm => ?_) (fun s29 H30 hr31 hm => ?_)
    · unfold m_Field_is_member_b1 at hm
      obtain ⟨g32, h33⟩ := hr28
      have h_self := Imm.mono g32 h_self
      have h_value := Imm.mono g32 h_value
      have g0 := Gr.of0' g0 g32
      have gl34 := g32
      obtain rfl := hx25
      refine rd_gn ⟨rfl, rd_yes (iteT ((ev_andV (fun Q hm => by
          have gb35 := Gr.refl (A := []) H26
          have h36 := (rfl : rA H26 (V.int x23) (V.int x23))
          refine rd_call (rd_cons (rd_var rfl (rd_nil ⟨_, rfl, wp_imp (wp_bind hm) (fun t37 hm H38 g39 => ?_) (fun _ e => e)⟩)))
          have h_self := Imm.mono g39 h_self
          have h_value := Imm.mono g39 h_value
          have h33 := Ls.g0 g39 h33
          have g0 := g0.of0' g39
          have gl34 := gl34.of0' g39
          have gb35 := gb35.of0' g39
          exact hm _ _ gb35 rfl) (fun H40 g41 Q hm => by
          have h_self := Imm.mono g41 h_self
          have h_value := Imm.mono g41 h_value
          have h33 := Ls.g0 g41 h33
          have g0 := g0.of0' g41
          have gl34 := gl34.of0' g41
          have gb42 := Gr.refl (A := []) H40
          exact chain_I (fun _ q => rd_c (q)) (fun _ q => rd_var rfl (q)) (fun _ q => rd_fld (rd_var rfl (fld_Field_p h_self kl_Field na_Field_p fun _ hz => by obtain rfl := hz; exact q))) (hm _ _ gb42 rfl))) _ (wp_imp (wp_bind hm) (fun t43 hm v46 H44 g45 h47 => ?_) (fun _ e => e))))⟩
      obtain rfl := h47
      have h_self := Imm.mono g45 h_self
      have h_value := Imm.mono g45 h_value
      have h33 := Ls.g0 g45 h33
      have g0 := g0.of0' g45
      have gl34 := gl34.of0' g45
      obtain ⟨c48, hm⟩ := wp_grd hm
      refine lc_add h33 rfl c48 fun H49 g50 h51 => ?_
      have h_self := Imm.mono g50 h_self
      have h_value := Imm.mono g50 h_value
      have g0 := Gr.loc g0 nw18 g50
      have gl34 := Gr.loc gl34 n17 g50
      exact hm _ ⟨gl34, h51⟩
    obtain ⟨g52, h53⟩ := hr31
    have h_self := Imm.mono g52 h_self
    have h_value := Imm.mono g52 h_value
    have g0 := Gr.of0' g0 g52
    exact rd_nil (all_L (Ls.q h53) (hm _ g0))

abbrev s_Field_zero : Stmt := inClass (topS 28) 3
abbrev n_Field_zero : List Str := ["self"]
theorem sc_Field_zero : FnScope n_Field_zero ["self"] (defScope s_Field_zero) := ⟨rfl, rfl, rfl, by decide +kernel, rfl, by decide +kernel, by decide +kernel⟩
def m_Field_zero (a_self : O_Field) : R (List Int) :=
  (getL a_self.2.2.2.2.1 (0 : Int)).bind fun t3 => R.ok t3
def sp_Field_zero (K : PySem.W.Frag) (c_Field : Addr) : Sp := fun vs H Q _ => ∃ (a_self : O_Field) (v_self : V), vs = [v_self] ∧ (rO_Field K c_Field) H a_self v_self ∧ wp (m_Field_zero a_self) (fun r => ∀ v H', Gr [] H H' → (rT K rI) H' r v → Q v H') (fun _ => False)
theorem ok_Field_zero {P : Program} {w : World} {K : PySem.W.Frag} {mg : Str → Option Value} {base : Heap} {f : Addr} {fd : FuncData} {c_Field : Addr} (F : Fun K "zero" "Field.zero" s_Field_zero f fd) (kl_Field : Cls K c_Field) (na_Field__members : NoAttr K c_Field "_members") : FnOk P w K mg base CX0 1 f fd ["self"] (sp_Field_zero K c_Field) := by
  refine F.ok sc_Field_zero (fun vs H Q E h => ?_) (fun cdv A outer s H0 vs Q E hr h => ?_)
  · obtain ⟨a_self, v_self, rfl, h_self, hm⟩ := h
    rfl
  · obtain ⟨a_self, v_self, rfl, h_self, hm⟩ := h
    have hm : wp (m_Field_zero a_self) _ _ := hm
    unfold m_Field_zero at hm
    refine ⟨_, (pss_one (ps_ret (pe_ix (ix_tupK (K := K) rfl) (pe_fldK (K := K) rfl (pv 0) rfl) pe_int (fun _ _ => rfl)))), ?_⟩
    have g0 := Gr.refl (A := []) H0
    refine rd_ret (rd_op (rd_fld (rd_var rfl (fld_Field__members h_self kl_Field na_Field__members fun v1 h2 => ?_))))
    refine rd_c (ix_T h2 (wp_bind hm) fun t3 v4 h5 hm => ?_)
    exact hm _ _ g0 h5

abbrev s_without_end_2 : Stmt := topS 16
abbrev n_without_end_2 : List Str := ["items", "zero", "length"]
theorem sc_without_end_2 : FnScope n_without_end_2 ["items", "zero"] (defScope s_without_end_2) := ⟨rfl, rfl, rfl, by decide +kernel, rfl, by decide +kernel, by decide +kernel⟩
def m_without_end_2_b1 (a_items : (List (List Int))) (a_zero : (List Int)) (s8 : Int) : R Bool :=
  (andR (R.ok (decide ((0 : Int) < s8))) ((getL a_items (s8 - (1 : Int))).bind fun t22 => R.ok (decide (t22 = a_zero)))).bind fun t25 => R.ok t25
def m_without_end_2_b2 (s8 : Int) : R (Int) :=
  R.ok (s8 - (1 : Int))
def m_without_end_2 (a_items : (List (List Int))) (a_zero : (List Int)) : R (List (List Int)) :=
  (whileR (m_without_end_2_b1 a_items a_zero) m_without_end_2_b2 100000 ((a_items).length : Int)).bind fun s4 => R.ok (cutT a_items none (some s4))
def sp_without_end_2 (K : PySem.W.Frag) : Sp := fun vs H Q _ => ∃ (a_items : (List (List Int))) (p_items : Addr) (a_zero : (List Int)) (v_zero : V), vs = [.ref p_items, v_zero] ∧ Ls (rT K rI) H p_items a_items ∧ (rT K rI) H a_zero v_zero ∧ wp (m_without_end_2 a_items a_zero) (fun r => ∀ v H', Gr [] H H' → (rT K (rT K rI)) H' r v → Q v H') (fun _ => False)
theorem ok_without_end_2 {P : Program} {w : World} {K : PySem.W.Frag} {mg : Str → Option Value} {base : Heap} {f : Addr} {fd : FuncData} (F : Fun K "without_end" "without_end" s_without_end_2 f fd) (z_len : mg "len" = none) (z_tuple : mg "tuple" = none) : FnOk P w K mg base CX0 1 f fd ["items", "zero"] (sp_without_end_2 K) := by
  refine F.ok sc_without_end_2 (fun vs H Q E h => ?_) (fun cdv A outer s H0 vs Q E hr h => ?_)
  · obtain ⟨a_items, p_items, a_zero, v_zero, rfl, h_items, h_zero, hm⟩ := h
    rfl
  · obtain ⟨a_items, p_items, a_zero, v_zero, rfl, h_items, h_zero, hm⟩ := h
    have hm : wp (m_without_end_2 a_items a_zero) _ _ := hm
    unfold m_without_end_2 at hm
    refine ⟨_, (pss_cons (ps_set (i := 2) sc_without_end_2.nd rfl (Or.inl rfl) (pe_callB (lenK (K := K) rfl) (by rfl) z_len PySem.boot_len (pa_cons (pv 0) pa_nil))) (pss_cons (ps_while PassesOwn.never (PW.pt (pw_and (pt_cmpR op_gt (pv 2) pe_int (nomark _)) (pw_and1 (pt_cmpR (eqDK (K := K) hr.units rfl) (pe_ix (ix_listK (K := K) rfl) (pv 0) (pe_op op_sub (pv 2) pe_int) (fun _ _ => rfl)) (pv 1) (nomark _))))) (pss_one (ps_set (i := 2) sc_without_end_2.nd rfl (Or.inl rfl) (pe_op op_sub (pv 2) pe_int)))) (pss_one (ps_ret (pe_callTy (tupleK (K := K) rfl) (by rfl) z_tuple (by decide +kernel) (pa_cons (pe_slice (sl_listK (K := K) rfl) (pv 0) po_none (po_some (pv 2))) pa_nil)))))), ?_⟩
    have g0 := Gr.refl (A := []) H0
    refine rd_seq (rd_asg (rd_cb (rd_cons (rd_var rfl (rd_nil (len_L (Ls.q h_items) (rd_gn ?_)))))))
    refine rd_nx ?_
    refine seq_join (t := tWhile _ _) (wp_bind hm) (fun (s : Int) (σ : L2.St) (H : Hp) => σ = [some (.ref p_items), some v_zero, some (.int s)] ∧ Gr [] H0 H) (fun N2 hN3 hm => ?_) (fun s4 σ H5 hr6 hm => ?_)
    · have gl7 := Gr.refl (A := []) H0
      refine whl_R (fun (s : Int) (σ : L2.St) (H : Hp) => σ = [some (.ref p_items), some v_zero, some (.int s)] ∧ Gr [] H0 H) (by exact wp_N hm (fun s σ' H' hr hz => hN3 s σ' H' hr hz)) ⟨rfl, gl7⟩ (fun s8 σ H9 N11 W12 m13 hW14 hr10 hm => ?_)
      unfold m_without_end_2_b1 at hm
      obtain ⟨rfl, g17⟩ := hr10
      have h_items := Ls.gA g17 nin0 h_items
      have h_zero := Imm.mono g17 h_zero
      have g0 := Gr.of0' g0 g17
      have gl7 := Gr.of0' gl7 g17
      refine (ev_and (fun Q hm => by
          have gb18 := Gr.refl (A := []) H9
          exact rd_T (rd_op (rd_var rfl (rd_c (rd_rI0 (rd_kB (hm _ gb18))))))) (fun H19 g20 Q hm => by
          have h_items := Ls.g0 g20 h_items
          have h_zero := Imm.mono g20 h_zero
          have g0 := g0.of0' g20
          have gl7 := gl7.of0' g20
          have gb21 := Gr.refl (A := []) H19
          refine rd_T (rd_op (rd_op (rd_var rfl (rd_op (rd_var rfl (rd_c (rd_rI0 (ix_L (Ls.q h_items) (wp_bind hm) fun t22 v23 h24 hm => ?_))))))))
          exact rd_var rfl (eq_D (DRep.tup (DRep.int K)) h24 h_zero (rd_kB (hm _ gb21))))) _ (wp_imp (wp_bind hm) (fun t25 hm H26 g27 => ?_) (fun _ e => e))
      have h_items := Ls.g0 g27 h_items
      have h_zero := Imm.mono g27 h_zero
      have g0 := g0.of0' g27
      have gl7 := gl7.of0' g27
      refine iteB' (fun e28 => ?_) (fun e28 => ?_)
      · exact ifF e28 hm _ _ ⟨rfl, gl7⟩
      have hm := ifT e28 hm
      unfold m_without_end_2_b2 at hm
      refine ⟨N11, hW14, ?_⟩
      refine rd_asg (rd_op (rd_var rfl (rd_c (rd_rI0 (rd_gn ?_)))))
      exact hm _ _ ⟨rfl, gl7⟩
    obtain ⟨rfl, g29⟩ := hr6
    have h_items := Ls.gA g29 nin0 h_items
    have h_zero := Imm.mono g29 h_zero
    have g0 := Gr.of0' g0 g29
    refine rd_ret (rd_cb (rd_cons (rd_sl (rd_var rfl (rd_np (rd_part (rd_var rfl (rd_kI (cut_L (K := K) (Ls.q h_items) fun p30 H31 n32 g33 h34 => ?_)))))))))
    have ne35 : p_items ≠ p30 := Ls.ne h_items n32
    have nw36 := Gr.free g0 n32
    have h_items := Ls.g0 g33 h_items
    have g0 := g0.of0' g33
    refine rd_nil (tup_of_L (K := K) (Ls.q h34) fun v37 H38 g39 h40 => ?_)
    have h_items := Ls.g0 g39 h_items
    have g0 := g0.of0' g39
    exact hm _ _ g0 h40

abbrev O_Poly : Type := O_Field × (List (List Int))
def rO_Poly (K : PySem.W.Frag) (c_Field : Addr) (c_Poly : Addr) : Rp O_Poly := fun H x v => ∃ (a dx : Addr) (v0 v1 : V), v = .ref a ∧ H a = some (.ins c_Poly dx [("field", v0), ("row", v1)]) ∧ (rO_Field K c_Field) H x.1 v0 ∧ (rT K (rT K rI)) H x.2 v1
instance {K : PySem.W.Frag} {c_Field c : Addr} : Imm (rO_Poly K c_Field c) := ⟨fun g ⟨a, dx, v0, v1, e, h, h0, h1⟩ => ⟨a, dx, v0, v1, e, g _ _ h rfl, Imm.im (r := (rO_Field K c_Field)) g h0, Imm.im (r := (rT K (rT K rI))) g h1⟩⟩
instance {K : PySem.W.Frag} {c_Field c : Addr} : NoN (rO_Poly K c_Field c) := ⟨fun ⟨a, dx, v0, v1, e, _⟩ z => by rw [e] at z; cases z⟩
theorem fld_Poly_field {K : PySem.W.Frag} {c_Field c : Addr} {H : Hp} {x : O_Poly} {v : V} {Q : VK} (h : rO_Poly K c_Field c H x v) (k : Cls K c) (n : NoAttr K c "field") (q : ∀ w, (rO_Field K c_Field) H x.1 w → Q w H) : fldA K "field" Q v H := by
  obtain ⟨a, dx, v0, v1, rfl, e, h0, h1⟩ := h
  exact get_fld e k n rfl (q _ h0)
theorem fld_Poly_row {K : PySem.W.Frag} {c_Field c : Addr} {H : Hp} {x : O_Poly} {v : V} {Q : VK} (h : rO_Poly K c_Field c H x v) (k : Cls K c) (n : NoAttr K c "row") (q : ∀ w, (rT K (rT K rI)) H x.2 w → Q w H) : fldA K "row" Q v H := by
  obtain ⟨a, dx, v0, v1, rfl, e, h0, h1⟩ := h
  exact get_fld e k n rfl (q _ h1)
theorem meth_Poly {K : PySem.W.Frag} {c_Field c : Addr} {H : Hp} {x : O_Poly} {v : V} {m : Str} {N : V → Hp → Prop} (h : rO_Poly K c_Field c H x v) (l : (["field", "row"] : List Str).all (fun k => !(m == k)) = true) (q : N v H) : methA c m N v H := by
  obtain ⟨a, dx, v0, v1, rfl, e, h0, h1⟩ := h
  exact on_meth e (lookup_no l) q
theorem ins_Poly {K : PySem.W.Frag} {c_Field c : Addr} {H : Hp} {x : O_Poly} {v : V} (h : rO_Poly K c_Field c H x v) : ∃ a dx fs, v = .ref a ∧ H a = some (.ins c dx fs) := by
  obtain ⟨a, dx, v0, v1, rfl, e, h0, h1⟩ := h
  exact ⟨a, dx, _, rfl, e⟩

abbrev s_Poly___init__ : Stmt := inClass (topS 36) 0
abbrev n_Poly___init__ : List Str := ["self", "field", "row", "item"]
theorem sc_Poly___init__ : FnScope n_Poly___init__ ["self", "field", "row"] (defScope s_Poly___init__) := ⟨rfl, rfl, rfl, by decide +kernel, rfl, by decide +kernel, by decide +kernel⟩
def m_Poly___init___b1 (a_field : O_Field) (s11 : List Bool) (x12 : (List Int)) : R (List Bool) :=
  (noEr (m_Field_is_member a_field x12)).bind fun t24 => grd (lenLt s11) <| R.ok (s11 ++ [t24])
def m_Poly___init__ (a_self : Unit) (a_field : O_Field) (a_row : (List (List Int))) : R O_Poly :=
  (foldR (m_Poly___init___b1 a_field) ([]) a_row).bind fun s18 => if (!((s18).all id)) = true then (R.er .mal) else ((noEr (m_Field_zero a_field)).bind fun t37 => (noEr (m_without_end_2 a_row t37)).bind fun t42 => R.ok (a_field, t42))
def sp_Poly___init__ (K : PySem.W.Frag) (c_Field : Addr) (c_Poly : Addr) (C : Xc) : Sp := fun vs H Q E => ∃ (a_self : Unit) (p_self : Addr) (d_self : Addr) (a_field : O_Field) (v_field : V) (a_row : (List (List Int))) (p_row : Addr) (Hb : Hp), vs = [.ref p_self, v_field, .ref p_row] ∧ Gr [] Hb H ∧ Hb p_self = none ∧ H p_self = some (.ins c_Poly d_self []) ∧ (rO_Field K c_Field) H a_field v_field ∧ Ls (rT K rI) H p_row a_row ∧ wp (m_Poly___init__ a_self a_field a_row) (fun r => ∀ H', Gr [] Hb H' → (rO_Poly K c_Field c_Poly) H' r (.ref p_self) → Q .non H') (XEr C [] Hb E)
theorem ok_Poly___init__ {P : Program} {w : World} {K : PySem.W.Frag} {mg : Str → Option Value} {base : Heap} {f : Addr} {fd : FuncData} {c_fault c_zd c_mal c_refu : Addr} {c_Field c_Poly : Addr} (F : Fun K "__init__" "Poly.__init__" s_Poly___init__ f fd) (z_all : mg "all" = none) (kl_Field : Cls K c_Field) (Xk_mal : Xk K mg "Malformed" c_mal) (kl_Poly : Cls K c_Poly) (na_Poly_field : NoAttr K c_Poly "field") (na_Poly_row : NoAttr K c_Poly "row") (c_Field_is_member : CalM P w K mg base CX0 2 c_Field "is_member" ["self", "value"] (sp_Field_is_member K c_Field)) (c_Field_zero : CalM P w K mg base CX0 1 c_Field "zero" ["self"] (sp_Field_zero K c_Field)) (c_without_end_2 : Cal P w K mg base CX0 1 "without_end" ["items", "zero"] (sp_without_end_2 K)) : FnOk P w K mg base (CX P w) 3 f fd ["self", "field", "row"] (sp_Poly___init__ K c_Field c_Poly (⟨some c_fault, some c_zd, some c_mal, some c_refu, none⟩ : Xc)) := by
  obtain ⟨f_Field_is_member, fd_Field_is_member, G_Field_is_member, M_Field_is_member, b_Field_is_member⟩ := c_Field_is_member
  obtain ⟨f_Field_zero, fd_Field_zero, G_Field_zero, M_Field_zero, b_Field_zero⟩ := c_Field_zero
  obtain ⟨f_without_end_2, fd_without_end_2, G_without_end_2, g_without_end_2, k_without_end_2, b_without_end_2⟩ := c_without_end_2
  refine F.okX sc_Poly___init__ (fun vs H Q E h => ?_) (fun cdv A outer s H0 vs Q E hr h => ?_)
  · obtain ⟨a_self, p_self, d_self, a_field, v_field, a_row, p_row, Hb, rfl, g0, nb, h_self, h_field, h_row, hm⟩ := h
    rfl
  · obtain ⟨a_self, p_self, d_self, a_field, v_field, a_row, p_row, Hb, rfl, g0, nb, h_self, h_field, h_row, hm⟩ := h
    have hm : wp (m_Poly___init__ a_self a_field a_row) _ _ := hm
    unfold m_Poly___init__ at hm
    refine ⟨_, (pss_cons (ps_if (pt_not (pt_val (pe_callB (allK (K := K) rfl rfl) (by rfl) z_all (by decide +kernel) (pa_cons (pe_lc (own := [("item", 3)]) (g := gName 3) (tt := tYes) rfl sc_Poly___init__.nd (pi_listK (K := K) (pv 2) rfl) (blkOk_by (own := [("item", 3)]) (N := n_Poly___init__) (sc := defScope s_Poly___init__) (by decide +kernel)) (fun _ _ _ _ _ => pg_name (i := 3) sc_Poly___init__.nd rfl (Or.inl rfl)) (fun _ _ _ _ _ => pts_nil) (fun _ _ _ _ _ => (pe_methS (pv 1) kl_Field M_Field_is_member G_Field_is_member (hr.mono (by decide)) b_Field_is_member passN (pa_cons (pv 3) pa_nil)))) pa_nil)))) (pss_one (ps_raise rfl (takes_of rfl rfl rfl rfl) (pmk_own PySem.F.excBase_ValueError Xk_mal.x Xk_mal.g Xk_mal.k (raises_own Xk_mal.b Xk_mal.t) (by rfl)))) pss_nil) (pss_cons (ps_fld (pv 0) (pv 1) rfl) (pss_one (ps_fld (pv 0) (pe_call G_without_end_2 (hr.mono (by decide)) (by rfl) g_without_end_2 k_without_end_2 b_without_end_2 .nil pass0 (pa_cons (pv 2) (pa_cons (pe_methS0 (pv 1) kl_Field M_Field_zero G_Field_zero (hr.mono (by decide)) b_Field_zero passN) pa_nil))) rfl)))), ?_⟩
    obtain ⟨vs1, hl2, hp3⟩ := id (Ls.q h_row)
    refine rd_seq (rd_if (rd_not (rd_B (rd_cb (rd_cons (rd_lc (rd_il (rd_var rfl ⟨_, rfl, ⟨_, hl2⟩, fun p4 n5 => ?_⟩))))))))
    have ne6 : p_row ≠ p4 := Ls.ne h_row n5
    have nw7 := Gr.free g0 n5
    refine lc_lst (r := (rT K rI)) (H1 := H0) (fun (s : List Bool) (H : Hp) => Gr [] H0 H ∧ Ls rB H p4 s) hp3 (wp_bind hm) ⟨Gr.new n5, ⟨[], upd_same, .nil⟩⟩ (fun _ _ hr => by obtain ⟨g, _⟩ := hr; exact g.lst nin0 hl2) (fun x12 v13 s11 H15 N16 hx14 hr17 hm => ?_) (fun s18 H19 hr20 hm => ?_)
    · unfold m_Poly___init___b1 at hm
      obtain ⟨g21, h22⟩ := hr17
      have h_self := ins_gA g21 nin0 h_self
      have h_field := Imm.mono g21 h_field
      have h_row := Ls.gA g21 nin0 h_row
      have g0 := Gr.of0' g0 g21
      have gl23 := g21
      have hx14 := Imm.mono g21 hx14
      refine rd_gn ⟨rfl, rd_yes (iteT (rd_meth (rd_var rfl (meth_Field h_field (by decide +kernel) (rd_cons (rd_var rfl (rd_nil ⟨_, _, _, _, rfl, h_field, hx14, wp_imp (wp_bindN hm) (fun t24 hm H25 g26 => ?_) (fun _ e => e)⟩)))))))⟩
      have h_self := ins_g0 g26 h_self
      have h_field := Imm.mono g26 h_field
      have h_row := Ls.g0 g26 h_row
      have hx14 := Imm.mono g26 hx14
      have h22 := Ls.g0 g26 h22
      have g0 := g0.of0' g26
      have gl23 := gl23.of0' g26
      obtain ⟨c27, hm⟩ := wp_grd hm
      refine lc_add h22 rfl c27 fun H28 g29 h30 => ?_
      have h_self := ins_gA g29 (nin1 (ins_ne h_self h22) nin0) h_self
      have h_field := Imm.mono g29 h_field
      have h_row := Ls.g1 g29 ne6 h_row
      have hx14 := Imm.mono g29 hx14
      have g0 := Gr.loc g0 nw7 g29
      have gl23 := Gr.loc gl23 n5 g29
      exact hm _ ⟨gl23, h30⟩
    obtain ⟨g31, h32⟩ := hr20
    have h_self := ins_gA g31 nin0 h_self
    have h_field := Imm.mono g31 h_field
    have h_row := Ls.gA g31 nin0 h_row
    have g0 := Gr.of0' g0 g31
    refine rd_nil (all_L (Ls.q h32) (rd_kB ?_))
    refine iteB (fun e33 => ?_) (fun e33 => ?_)
    · have hm := ifT e33 (wp_iteB hm)
      exact xe0_at hm rfl g0
    have hm := ifF e33 (wp_iteB hm)
    refine rd_next (rd_nx ?_)
    refine rd_seq (rd_sfld (rd_var rfl (rd_var rfl (set_fld (y := v_field) h_self (show (5 : Nat) ≠ 0 by decide) kl_Poly na_Poly_field (by show 0 < 1000; decide) fun H34 f35 h36 => ?_))))
    have h_field := Imm.im f35.im h_field
    have h_row := Ls.fz f35 (Ne.symm (ins_ne h_self h_row)) h_row
    have g0 := Gr.fz g0 nb f35
    have h_self : H34 p_self = some (.ins c_Poly d_self [("field", v_field)]) := h36
    refine rd_nx ?_
    refine rd_sfld (rd_call (rd_cons (rd_var rfl (rd_cons (rd_meth (rd_var rfl (meth_Field h_field (by decide +kernel) (rd_nil ⟨_, _, rfl, h_field, wp_imp (wp_bindN hm) (fun t37 hm v40 H38 g39 h41 => ?_) (fun _ e => e)⟩))))))))
    have h_self := ins_g0 g39 h_self
    have h_field := Imm.mono g39 h_field
    have h_row := Ls.g0 g39 h_row
    have g0 := g0.of0' g39
    refine rd_nil ⟨_, _, _, _, rfl, h_row, h41, wp_imp (wp_bindN hm) (fun t42 hm v45 H43 g44 h46 => ?_) (fun _ e => e)⟩
    have h_self := ins_g0 g44 h_self
    have h_field := Imm.mono g44 h_field
    have h_row := Ls.g0 g44 h_row
    have g0 := g0.of0' g44
    refine rd_var rfl (set_fld (y := v45) h_self (show (5 : Nat) ≠ 0 by decide) kl_Poly na_Poly_row (by show 1 < 1000; decide) fun H47 f48 h49 => ?_)
    have h_field := Imm.im f48.im h_field
    have h_row := Ls.fz f48 (Ne.symm (ins_ne h_self h_row)) h_row
    have h46 := Imm.im f48.im h46
    have g0 := Gr.fz g0 nb f48
    have h_self : H47 p_self = some (.ins c_Poly d_self [("field", v_field), ("row", v45)]) := h49
    exact hm _ g0 ⟨_, _, _, _, rfl, h_self, h_field, h46⟩

abbrev s_Poly_is_zero : Stmt := inClass (topS 36) 11
abbrev n_Poly_is_zero : List Str := ["self"]
theorem sc_Poly_is_zero : FnScope n_Poly_is_zero ["self"] (defScope s_Poly_is_zero) := ⟨rfl, rfl, rfl, by decide +kernel, rfl, by decide +kernel, by decide +kernel⟩
def m_Poly_is_zero (a_self : O_Poly) : R Bool :=
  R.ok (decide (((a_self.2).length : Int) = (0 : Int)))
def sp_Poly_is_zero (K : PySem.W.Frag) (c_Field : Addr) (c_Poly : Addr) : Sp := fun vs H Q _ => ∃ (a_self : O_Poly) (v_self : V), vs = [v_self] ∧ (rO_Poly K c_Field c_Poly) H a_self v_self ∧ wp (m_Poly_is_zero a_self) (fun r => ∀ H', Gr [] H H' → Q (.bl r) H') (fun _ => False)
theorem ok_Poly_is_zero {P : Program} {w : World} {K : PySem.W.Frag} {mg : Str → Option Value} {base : Heap} {f : Addr} {fd : FuncData} {c_Field c_Poly : Addr} (F : Fun K "is_zero" "Poly.is_zero" s_Poly_is_zero f fd) (z_len : mg "len" = none) (kl_Poly : Cls K c_Poly) (na_Poly_row : NoAttr K c_Poly "row") : FnOk P w K mg base CX0 1 f fd ["self"] (sp_Poly_is_zero K c_Field c_Poly) := by
  refine F.ok sc_Poly_is_zero (fun vs H Q E h => ?_) (fun cdv A outer s H0 vs Q E hr h => ?_)
  · obtain ⟨a_self, v_self, rfl, h_self, hm⟩ := h
    rfl
  · obtain ⟨a_self, v_self, rfl, h_self, hm⟩ := h
    have hm : wp (m_Poly_is_zero a_self) _ _ := hm
    unfold m_Poly_is_zero at hm
    refine ⟨_, (pss_one (ps_ret (pe_cmpR op_eqI (pe_callB (lenK (K := K) rfl) (by rfl) z_len PySem.boot_len (pa_cons (pe_fldK (K := K) rfl (pv 0) rfl) pa_nil)) pe_int (nomark _)))), ?_⟩
    have g0 := Gr.refl (A := []) H0
    refine rd_ret (rd_op (rd_cb (rd_cons (rd_fld (rd_var rfl (fld_Poly_row h_self kl_Poly na_Poly_row fun v1 h2 => ?_))))))
    exact rd_nil (len_T h2 (rd_c (rd_rI0 (hm _ g0))))

abbrev s_Field_multiply : Stmt := inClass (topS 28) 10
abbrev n_Field_multiply : List Str := ["self", "a", "b", "zero"]
theorem sc_Field_multiply : FnScope n_Field_multiply ["self", "a", "b"] (defScope s_Field_multiply) := ⟨rfl, rfl, rfl, by decide +kernel, rfl, by decide +kernel, by decide +kernel⟩
def m_Field_multiply (a_self : O_Field) (a_a : (List Int)) (a_b : (List Int)) : R (List Int) :=
  (getL a_self.2.2.2.2.1 (0 : Int)).bind fun t3 => (orR (R.ok (decide (a_a = t3))) (R.ok (decide (a_b = t3)))).bind fun t10 => if t10 = true then (R.ok t3) else ((getM a_self.2.2.2.2.2.2.1 a_a).bind fun t18 => (getM a_self.2.2.2.2.2.2.1 a_b).bind fun t23 => grd (0 < (a_self.2.2.2.1 - (1 : Int))) <| (getL a_self.2.2.2.2.2.1 ((t18 + t23) % (a_self.2.2.2.1 - (1 : Int)))).bind fun t29 => R.ok t29)
def sp_Field_multiply (K : PySem.W.Frag) (c_Field : Addr) : Sp := fun vs H Q _ => ∃ (a_self : O_Field) (v_self : V) (a_a : (List Int)) (v_a : V) (a_b : (List Int)) (v_b : V), vs = [v_self, v_a, v_b] ∧ (rO_Field K c_Field) H a_self v_self ∧ (rT K rI) H a_a v_a ∧ (rT K rI) H a_b v_b ∧ wp (m_Field_multiply a_self a_a a_b) (fun r => ∀ v H', Gr [] H H' → (rT K rI) H' r v → Q v H') (fun _ => False)
theorem ok_Field_multiply {P : Program} {w : World} {K : PySem.W.Frag} {mg : Str → Option Value} {base : Heap} {f : Addr} {fd : FuncData} {c_Field : Addr} (F : Fun K "multiply" "Field.multiply" s_Field_multiply f fd) (kl_Field : Cls K c_Field) (na_Field__members : NoAttr K c_Field "_members") (na_Field__powers : NoAttr K c_Field "_powers") (na_Field__logarithms : NoAttr K c_Field "_logarithms") (na_Field_q : NoAttr K c_Field "q") : FnOk P w K mg base CX0 1 f fd ["self", "a", "b"] (sp_Field_multiply K c_Field) := by
  refine F.ok sc_Field_multiply (fun vs H Q E h => ?_) (fun cdv A outer s H0 vs Q E hr h => ?_)
  · obtain ⟨a_self, v_self, a_a, v_a, a_b, v_b, rfl, h_self, h_a, h_b, hm⟩ := h
    rfl
  · obtain ⟨a_self, v_self, a_a, v_a, a_b, v_b, rfl, h_self, h_a, h_b, hm⟩ := h
    have hm : wp (m_Field_multiply a_self a_a a_b) _ _ := hm
    unfold m_Field_multiply at hm
    refine ⟨_, (pss_cons (ps_set (i := 3) sc_Field_multiply.nd rfl (Or.inl rfl) (pe_ix (ix_tupK (K := K) rfl) (pe_fldK (K := K) rfl (pv 0) rfl) pe_int (fun _ _ => rfl))) (pss_cons (ps_if (PW.pt (pw_or (pt_cmpR (eqDK (K := K) hr.units rfl) (pv 1) (pv 3) (nomark _)) (pw_or1 (pt_cmpR (eqDK (K := K) hr.units rfl) (pv 2) (pv 3) (nomark _))))) (pss_one (ps_ret (pv 3))) pss_nil) (pss_one (ps_ret (pe_ix (ix_tupK (K := K) rfl) (pe_fldK (K := K) rfl (pv 0) rfl) (pe_op op_mod (pe_op op_add (pe_dgetA (K := K) rfl (u1 hr.units) (pe_fldK (K := K) rfl (pv 0) rfl) (pv 1) (fun _ _ => rfl)) (pe_dgetA (K := K) rfl (u1 hr.units) (pe_fldK (K := K) rfl (pv 0) rfl) (pv 2) (fun _ _ => rfl))) (pe_op op_sub (pe_fldK (K := K) rfl (pv 0) rfl) pe_int)) (fun _ _ => rfl)))))), ?_⟩
    have g0 := Gr.refl (A := []) H0
    refine rd_seq (rd_asg (rd_op (rd_fld (rd_var rfl (fld_Field__members h_self kl_Field na_Field__members fun v1 h2 => ?_)))))
    refine rd_c (ix_T h2 (wp_bind hm) fun t3 v4 h5 hm => ?_)
    refine rd_gn ?_
    refine rd_nx ?_
    refine rd_seq (rd_if ((ev_or (fun Q hm => by
        have gb6 := Gr.refl (A := []) H0
        exact rd_T (rd_op (rd_var rfl (rd_var rfl (eq_D (DRep.tup (DRep.int K)) h_a h5 (rd_kB (hm _ gb6))))))) (fun H7 g8 Q hm => by
        have h_self := Imm.mono g8 h_self
        have h_a := Imm.mono g8 h_a
        have h_b := Imm.mono g8 h_b
        have h5 := Imm.mono g8 h5
        have g0 := g0.of0' g8
        have gb9 := Gr.refl (A := []) H7
        exact rd_T (rd_op (rd_var rfl (rd_var rfl (eq_D (DRep.tup (DRep.int K)) h_b h5 (rd_kB (hm _ gb9)))))))) _ (wp_imp (wp_bind hm) (fun t10 hm H11 g12 => ?_) (fun _ e => e))))
    have h_self := Imm.mono g12 h_self
    have h_a := Imm.mono g12 h_a
    have h_b := Imm.mono g12 h_b
    have h5 := Imm.mono g12 h5
    have g0 := g0.of0' g12
    refine iteB (fun e13 => ?_) (fun e13 => ?_)
    · have hm := ifT e13 (wp_iteB hm)
      exact rd_ret (rd_var rfl (hm _ _ g0 h5))
    have hm := ifF e13 (wp_iteB hm)
    refine rd_next (rd_nx ?_)
    refine rd_ret (rd_op (rd_fld (rd_var rfl (fld_Field__powers h_self kl_Field na_Field__powers fun v14 h15 => ?_))))
    refine rd_op (rd_op (rd_dgD (rd_fld (rd_var rfl (fld_Field__logarithms h_self kl_Field na_Field__logarithms fun v16 h17 => ?_)))))
    refine rd_var rfl (dget_D h17 h_a (wp_bind hm) fun t18 v19 h20 hm => ?_)
    obtain rfl := h20
    refine rd_dgD (rd_fld (rd_var rfl (fld_Field__logarithms h_self kl_Field na_Field__logarithms fun v21 h22 => ?_)))
    refine rd_var rfl (dget_D h22 h_b (wp_bind hm) fun t23 v24 h25 hm => ?_)
    obtain rfl := h25
    refine rd_rI0 (rd_op (rd_fld (rd_var rfl (fld_Field_q h_self kl_Field na_Field_q fun v26 h27 => ?_))))
    obtain rfl := h27
    obtain ⟨c28, hm⟩ := wp_grd hm
    refine rd_c (rd_rI0 (rd_rI c28 (ix_T h15 (wp_bind hm) fun t29 v30 h31 hm => ?_)))
    exact hm _ _ g0 h31

abbrev s_Field_add : Stmt := inClass (topS 28) 7
abbrev n_Field_add : List Str := ["self", "a", "b", "x", "y"]
theorem sc_Field_add : FnScope n_Field_add ["self", "a", "b"] (defScope s_Field_add) := ⟨rfl, rfl, rfl, by decide +kernel, rfl, by decide +kernel, by decide +kernel⟩
def m_Field_add_b1 (a_self : O_Field) (s17 : List Int) (x18 : (Int × Int)) : R (List Int) :=
  grd (0 < a_self.1) <| grd (lenLt s17) <| R.ok (s17 ++ [((x18.1 + x18.2) % a_self.1)])
def m_Field_add (a_self : O_Field) (a_a : (List Int)) (a_b : (List Int)) : R (List Int) :=
  (foldR (m_Field_add_b1 a_self) ([]) (a_a.zip a_b)).bind fun s24 => R.ok s24
def sp_Field_add (K : PySem.W.Frag) (c_Field : Addr) : Sp := fun vs H Q _ => ∃ (a_self : O_Field) (v_self : V) (a_a : (List Int)) (v_a : V) (a_b : (List Int)) (v_b : V), vs = [v_self, v_a, v_b] ∧ (rO_Field K c_Field) H a_self v_self ∧ (rT K rI) H a_a v_a ∧ (rT K rI) H a_b v_b ∧ wp (m_Field_add a_self a_a a_b) (fun r => ∀ v H', Gr [] H H' → (rT K rI) H' r v → Q v H') (fun _ => False)
theorem ok_Field_add {P : Program} {w : World} {K : PySem.W.Frag} {mg : Str → Option Value} {base : Heap} {f : Addr} {fd : FuncData} {c_Field : Addr} (F : Fun K "add" "Field.add" s_Field_add f fd) (z_zip : mg "zip" = none) (z_tuple : mg "tuple" = none) (kl_Field : Cls K c_Field) (na_Field_p : NoAttr K c_Field "p") : FnOk P w K mg base CX0 1 f fd ["self", "a", "b"] (sp_Field_add K c_Field) := by
  refine F.ok sc_Field_add (fun vs H Q E h => ?_) (fun cdv A outer s H0 vs Q E hr h => ?_)
  · obtain ⟨a_self, v_self, a_a, v_a, a_b, v_b, rfl, h_self, h_a, h_b, hm⟩ := h
    rfl
  · obtain ⟨a_self, v_self, a_a, v_a, a_b, v_b, rfl, h_self, h_a, h_b, hm⟩ := h
    have hm : wp (m_Field_add a_self a_a a_b) _ _ := hm
    unfold m_Field_add at hm
    refine ⟨_, (pss_one (ps_ret (pe_callTy (tupleK (K := K) rfl) (by rfl) z_tuple (by decide +kernel) (pa_cons (pe_lc (own := [("x", 3), ("y", 4)]) (g := (gTup K 2 (gCons (gName 3) (gCons (gName 4) gNil)))) (tt := tYes) rfl sc_Field_add.nd (pi_zipK (K := K) (by rfl) z_zip (pa_cons (pv 1) (pa_cons (pv 2) pa_nil)) rfl) (blkOk_by (own := [("x", 3), ("y", 4)]) (N := n_Field_add) (sc := defScope s_Field_add) (by decide +kernel)) (fun _ _ _ _ _ => pg_tup rfl (pgs_cons (pg_name (i := 3) sc_Field_add.nd rfl (Or.inl rfl) (Or.inr rfl)) (pgs_cons (pg_name (i := 4) sc_Field_add.nd rfl (Or.inl rfl) (Or.inr rfl)) pgs_nil))) (fun _ _ _ _ _ => pts_nil) (fun _ _ _ _ _ => (pe_op op_mod (pe_op op_add (pv 3) (pv 4)) (pe_fldK (K := K) rfl (pv 0) rfl)))) pa_nil)))), ?_⟩
    have g0 := Gr.refl (A := []) H0
    obtain ⟨a1, ea5, vs2, hl3, hp4⟩ := id h_a
    obtain ⟨a6, ea10, vs7, hl8, hp9⟩ := id h_b
    refine rd_ret (rd_cb (rd_cons (rd_lc (rd_izip (rd_cons (rd_var rfl (rd_cons (rd_var rfl (rd_nil (zip_t ea5 ea10 hl3 hl8 (fun p11 n12 => ?_)))))))))))
    have nw13 := Gr.free g0 n12
    refine lc_R (r := (rP K rI rI)) (H0 := H0) (H1 := H0) (wk_zipT hp4 hp9) (fun (s : List Int) (H : Hp) => Gr [] H0 H ∧ Ls rI H p11 s) (wp_bind hm) ⟨Gr.new n12, ⟨[], upd_same, .nil⟩⟩ (fun _ _ hr => by obtain ⟨g, _⟩ := hr; exact ⟨⟨g.tup hl3, g.tup hl8⟩, _, g⟩) (fun x18 v19 s17 H21 H27 N22 hr23 hg28 hx20 hm => ?_) (fun s24 H25 hr26 hm => ?_)
    · unfold m_Field_add_b1 at hm
      obtain ⟨g29, h30⟩ := hr23
      have h_self := Imm.mono g29 h_self
      have h_a := Imm.mono g29 h_a
      have h_b := Imm.mono g29 h_b
      have g0 := Gr.of0' g0 g29
      have gl31 := g29
      have h_self := Imm.mono hg28 h_self
      have h_a := Imm.mono hg28 h_a
      have h_b := Imm.mono hg28 h_b
      have h30 := Ls.g0 hg28 h30
      have g0 := g0.of0' hg28
      have gl31 := gl31.of0' hg28
      obtain ⟨a32, x33, x34, ea38, h35, h36, h37⟩ := id hx20
      obtain rfl := h36
      obtain rfl := h37
      refine rd_gtE ea38 h35 rfl (rd_gc (rd_gn (rd_gc (rd_gn (rd_g0 ⟨rfl, rd_yes (iteT (rd_op (rd_op (rd_var rfl (rd_var rfl (rd_rI0 (rd_fld (rd_var rfl (fld_Field_p h_self kl_Field na_Field_p fun v39 h40 => ?_)))))))))⟩)))))
      obtain rfl := h40
      obtain ⟨c41, hm⟩ := wp_grd hm
      obtain ⟨c42, hm⟩ := wp_grd hm
      refine rd_rI c41 (lc_add h30 rfl c42 fun H43 g44 h45 => ?_)
      have h_self := Imm.mono g44 h_self
      have h_a := Imm.mono g44 h_a
      have h_b := Imm.mono g44 h_b
      have g0 := Gr.loc g0 nw13 g44
      have gl31 := Gr.loc gl31 n12 g44
      exact hm _ ⟨gl31, h45⟩
    obtain ⟨g46, h47⟩ := hr26
    have h_self := Imm.mono g46 h_self
    have h_a := Imm.mono g46 h_a
    have h_b := Imm.mono g46 h_b
    have g0 := Gr.of0' g0 g46
    refine rd_nil (tup_of_L (K := K) (Ls.q h47) fun v48 H49 g50 h51 => ?_)
    have h_self := Imm.mono g50 h_self
    have h_a := Imm.mono g50 h_a
    have h_b := Imm.mono g50 h_b
    have g0 := g0.of0' g50
    exact hm _ _ g0 h51

abbrev s_Poly___call__ : Stmt := inClass (topS 36) 8
abbrev n_Poly___call__ : List Str := ["self", "a", "value", "item"]
theorem sc_Poly___call__ : FnScope n_Poly___call__ ["self", "a"] (defScope s_Poly___call__) := ⟨rfl, rfl, rfl, by decide +kernel, rfl, by decide +kernel, by decide +kernel⟩
def m_Poly___call___b1 (a_self : O_Poly) (a_a : (List Int)) (s17 : (List Int)) (x29 : (List Int)) : R ((List Int)) :=
  (m_Field_multiply a_self.1 s17 a_a).bind fun t43 => (m_Field_add a_self.1 t43 x29).bind fun t48 => R.ok t48
def m_Poly___call__ (a_self : O_Poly) (a_a : (List Int)) : R (List Int) :=
  (m_Field_zero a_self.1).bind fun t3 => (foldR (m_Poly___call___b1 a_self a_a) t3 a_self.2.reverse).bind fun s11 => R.ok s11
def sp_Poly___call__ (K : PySem.W.Frag) (c_Field : Addr) (c_Poly : Addr) : Sp := fun vs H Q _ => ∃ (a_self : O_Poly) (v_self : V) (a_a : (List Int)) (v_a : V), vs = [v_self, v_a] ∧ (rO_Poly K c_Field c_Poly) H a_self v_self ∧ (rT K rI) H a_a v_a ∧ wp (m_Poly___call__ a_self a_a) (fun r => ∀ v H', Gr [] H H' → (rT K rI) H' r v → Q v H') (fun _ => False)
theorem ok_Poly___call__ {P : Program} {w : World} {K : PySem.W.Frag} {mg : Str → Option Value} {base : Heap} {f : Addr} {fd : FuncData} {c_Field c_Poly : Addr} (F : Fun K "__call__" "Poly.__call__" s_Poly___call__ f fd) (z_reversed : mg "reversed" = none) (kl_Poly : Cls K c_Poly) (na_Poly_field : NoAttr K c_Poly "field") (kl_Field : Cls K c_Field) (na_Poly_row : NoAttr K c_Poly "row") (c_Field_zero : CalM P w K mg base CX0 1 c_Field "zero" ["self"] (sp_Field_zero K c_Field)) (c_Field_multiply : CalM P w K mg base CX0 1 c_Field "multiply" ["self", "a", "b"] (sp_Field_multiply K c_Field)) (c_Field_add : CalM P w K mg base CX0 1 c_Field "add" ["self", "a", "b"] (sp_Field_add K c_Field)) : FnOk P w K mg base CX0 2 f fd ["self", "a"] (sp_Poly___call__ K c_Field c_Poly) := by
  obtain ⟨f_Field_zero, fd_Field_zero, G_Field_zero, M_Field_zero, b_Field_zero⟩ := c_Field_zero
  obtain ⟨f_Field_multiply, fd_Field_multiply, G_Field_multiply, M_Field_multiply, b_Field_multiply⟩ := c_Field_multiply
  obtain ⟨f_Field_add, fd_Field_add, G_Field_add, M_Field_add, b_Field_add⟩ := c_Field_add
  refine F.ok sc_Poly___call__ (fun vs H Q E h => ?_) (fun cdv A outer s H0 vs Q E hr h => ?_)
  · obtain ⟨a_self, v_self, a_a, v_a, rfl, h_self, h_a, hm⟩ := h
    rfl
  · obtain ⟨a_self, v_self, a_a, v_a, rfl, h_self, h_a, hm⟩ := h
    have hm : wp (m_Poly___call__ a_self a_a) _ _ := hm
    unfold m_Poly___call__ at hm
    refine ⟨_, (pss_cons (ps_set (i := 2) sc_Poly___call__.nd rfl (Or.inl rfl) (pe_methS0 (pe_fldK (K := K) rfl (pv 0) rfl) kl_Field M_Field_zero G_Field_zero (hr.mono (by decide)) b_Field_zero passN)) (pss_cons (ps_for PassesOwn.never rfl (pi_revAK (K := K) (by rfl) z_reversed (pe_fldK (K := K) rfl (pv 0) rfl) rfl) (pg_name (i := 3) sc_Poly___call__.nd rfl (Or.inl rfl)) (pss_one (ps_set (i := 2) sc_Poly___call__.nd rfl (Or.inl rfl) (pe_methS (pe_fldK (K := K) rfl (pv 0) rfl) kl_Field M_Field_add G_Field_add (hr.mono (by decide)) b_Field_add passN (pa_cons (pe_methS (pe_fldK (K := K) rfl (pv 0) rfl) kl_Field M_Field_multiply G_Field_multiply (hr.mono (by decide)) b_Field_multiply passN (pa_cons (pv 2) (pa_cons (pv 1) pa_nil))) (pa_cons (pv 3) pa_nil)))))) (pss_one (ps_ret (pv 2))))), ?_⟩
    have g0 := Gr.refl (A := []) H0
    refine rd_seq (rd_asg (rd_meth (rd_fld (rd_var rfl (fld_Poly_field h_self kl_Poly na_Poly_field fun v1 h2 => ?_)))))
    refine meth_Field h2 (by decide +kernel) (rd_nil ⟨_, _, rfl, h2, wp_imp (wp_bind hm) (fun t3 hm v6 H4 g5 h7 => ?_) (fun _ e => e)⟩)
    have h_self := Imm.mono g5 h_self
    have h_a := Imm.mono g5 h_a
    have g0 := g0.of0' g5
    refine rd_gn ?_
    refine rd_nx ?_
    refine seq_join (t := tFor _ _ _) (wp_bind hm) (fun (s : (List Int)) (σ : L2.St) (H : Hp) => ∃ (w15 : V) (o16 : Option V), σ = [some v_self, some v_a, some w15, o16] ∧ Gr [] H4 H ∧ (rT K rI) H s w15) (fun N9 hN10 hm => ?_) (fun s11 σ H12 hr13 hm => ?_)
    · have gl14 := Gr.refl (A := []) H4
      refine rd_for (rd_irevA (rd_fld (rd_var rfl (fld_Poly_row h_self kl_Poly na_Poly_row fun v21 h22 => ?_))))
      obtain ⟨a26, ea27, vs23, hl24, hp25⟩ := id h22
      have gl28 := Gr.refl (A := []) H4
      refine rev_t ea27 hl24 (for_R (r := (rT K rI)) (H0 := H4) (wk_revT hp25) (fun (s : (List Int)) (σ : L2.St) (H : Hp) => ∃ (w15 : V) (o16 : Option V), σ = [some v_self, some v_a, some w15, o16] ∧ Gr [] H4 H ∧ (rT K rI) H s w15) (by exact wp_N hm (fun s σ' H' hr hz => hN10 s σ' H' hr hz)) ⟨_, _, rfl, gl28, h7⟩ (fun _ _ _ hr => by obtain ⟨_, _, _, g, _⟩ := hr; exact ⟨g.tup hl24, _, g⟩) (fun x29 v30 s17 σ H18 H32 N20 hr19 hg33 hx31 hm => ?_))
      unfold m_Poly___call___b1 at hm
      obtain ⟨w36, o38, rfl, g35, h37⟩ := hr19
      have h_self := Imm.mono g35 h_self
      have h_a := Imm.mono g35 h_a
      have g0 := Gr.of0' g0 g35
      have gl28 := Gr.of0' gl28 g35
      have h_self := Imm.mono hg33 h_self
      have h_a := Imm.mono hg33 h_a
      have h37 := Imm.mono hg33 h37
      have g0 := g0.of0' hg33
      have gl28 := gl28.of0' hg33
      refine rd_gn (rd_asg (rd_meth (rd_fld (rd_var rfl (fld_Poly_field h_self kl_Poly na_Poly_field fun v39 h40 => ?_)))))
      refine meth_Field h40 (by decide +kernel) (rd_cons (rd_meth (rd_fld (rd_var rfl (fld_Poly_field h_self kl_Poly na_Poly_field fun v41 h42 => ?_)))))
      refine meth_Field h42 (by decide +kernel) (rd_cons (rd_var rfl (rd_cons (rd_var rfl (rd_nil ⟨_, _, _, _, _, _, rfl, h42, h37, h_a, wp_imp (wp_bind hm) (fun t43 hm v46 H44 g45 h47 => ?_) (fun _ e => e)⟩)))))
      have h_self := Imm.mono g45 h_self
      have h_a := Imm.mono g45 h_a
      have h37 := Imm.mono g45 h37
      have hx31 := Imm.mono g45 hx31
      have h40 := Imm.mono g45 h40
      have g0 := g0.of0' g45
      have gl28 := gl28.of0' g45
      refine rd_cons (rd_var rfl (rd_nil ⟨_, _, _, _, _, _, rfl, h40, h47, hx31, wp_imp (wp_bind hm) (fun t48 hm v51 H49 g50 h52 => ?_) (fun _ e => e)⟩))
      have h_self := Imm.mono g50 h_self
      have h_a := Imm.mono g50 h_a
      have h37 := Imm.mono g50 h37
      have hx31 := Imm.mono g50 hx31
      have g0 := g0.of0' g50
      have gl28 := gl28.of0' g50
      refine rd_gn ?_
      exact hm _ _ ⟨_, _, rfl, gl28, h52⟩
    obtain ⟨w54, o56, rfl, g53, h55⟩ := hr13
    have h_self := Imm.mono g53 h_self
    have h_a := Imm.mono g53 h_a
    have g0 := Gr.of0' g0 g53
    exact rd_ret (rd_var rfl (hm _ _ g0 h55))

abbrev s_roots : Stmt := topS 44
abbrev n_roots : List Str := ["f", "a"]
theorem sc_roots : FnScope n_roots ["f"] (defScope s_roots) := ⟨rfl, rfl, rfl, by decide +kernel, rfl, by decide +kernel, by decide +kernel⟩
def m_roots_b1 (a_f : O_Poly) (s17 : List (List Int)) (x18 : (List Int)) : R (List (List Int)) :=
  (noEr (m_Poly___call__ a_f x18)).bind fun t32 => (noEr (m_Field_zero a_f.1)).bind fun t39 => if (decide (t32 = t39)) = true then (grd (lenLt s17) <| R.ok (s17 ++ [x18])) else R.ok s17
def m_roots (a_f : O_Poly) : R (List (List Int)) :=
  (noEr (m_Poly_is_zero a_f)).bind fun t1 => if t1 = true then (R.er .zd) else ((foldR (m_roots_b1 a_f) ([]) a_f.1.2.2.2.2.1).bind fun s24 => R.ok s24)
def sp_roots (K : PySem.W.Frag) (c_Field : Addr) (c_Poly : Addr) (C : Xc) : Sp := fun vs H Q E => ∃ (a_f : O_Poly) (v_f : V), vs = [v_f] ∧ (rO_Poly K c_Field c_Poly) H a_f v_f ∧ wp (m_roots a_f) (fun r => ∀ v H', Gr [] H H' → (rT K (rT K rI)) H' r v → Q v H') (XEr C [] H E)
theorem ok_roots {P : Program} {w : World} {K : PySem.W.Frag} {mg : Str → Option Value} {base : Heap} {f : Addr} {fd : FuncData} {c_fault c_zd c_mal c_refu : Addr} {c_Field c_Poly : Addr} (F : Fun K "roots" "roots" s_roots f fd) (z_tuple : mg "tuple" = none) (kl_Poly : Cls K c_Poly) (Xk_zd : Xk K mg "ZeroDivisor" c_zd) (na_Poly_field : NoAttr K c_Poly "field") (kl_Field : Cls K c_Field) (gd_Field_members : GenS.GDef K c_Field "members" "_members") (c_Poly_is_zero : CalM P w K mg base CX0 1 c_Poly "is_zero" ["self"] (sp_Poly_is_zero K c_Field c_Poly)) (c_Poly___call__ : CalM P w K mg base CX0 2 c_Poly "__call__" ["self", "a"] (sp_Poly___call__ K c_Field c_Poly)) (c_Field_zero : CalM P w K mg base CX0 1 c_Field "zero" ["self"] (sp_Field_zero K c_Field)) : FnOk P w K mg base (CX P w) 3 f fd ["f"] (sp_roots K c_Field c_Poly (⟨some c_fault, some c_zd, some c_mal, some c_refu, none⟩ : Xc)) := by
  obtain ⟨f_Poly_is_zero, fd_Poly_is_zero, G_Poly_is_zero, M_Poly_is_zero, b_Poly_is_zero⟩ := c_Poly_is_zero
  obtain ⟨f_Poly___call__, fd_Poly___call__, G_Poly___call__, M_Poly___call__, b_Poly___call__⟩ := c_Poly___call__
  obtain ⟨f_Field_zero, fd_Field_zero, G_Field_zero, M_Field_zero, b_Field_zero⟩ := c_Field_zero
  refine F.okX sc_roots (fun vs H Q E h => ?_) (fun cdv A outer s H0 vs Q E hr h => ?_)
  · obtain ⟨a_f, v_f, rfl, h_f, hm⟩ := h
    rfl
  · obtain ⟨a_f, v_f, rfl, h_f, hm⟩ := h
    have hm : wp (m_roots a_f) _ _ := hm
    unfold m_roots at hm
    refine ⟨_, (pss_cons (ps_if (pt_val (pe_methS0 (pv 0) kl_Poly M_Poly_is_zero G_Poly_is_zero (hr.mono (by decide)) b_Poly_is_zero passN)) (pss_one (ps_raise rfl (takes_of rfl rfl rfl rfl) (pmk_own PySem.F.excBase_ValueError Xk_zd.x Xk_zd.g Xk_zd.k (raises_own Xk_zd.b Xk_zd.t) (by rfl)))) pss_nil) (pss_one (ps_ret (pe_callTy (tupleK (K := K) rfl) (by rfl) z_tuple (by decide +kernel) (pa_cons (GenS.pe_lcG (own := [("a", 1)]) (g := gName 1) hr sc_roots.nd (pig_meth0K (K := K) rfl (pe_fldK (K := K) rfl (pv 0) rfl) kl_Field gd_Field_members hr) (blkOk_by (own := [("a", 1)]) (N := n_roots) (sc := defScope s_roots) (by decide +kernel)) ⟨fun _ _ _ _ => pg_name (i := 1) sc_roots.nd rfl (Or.inl rfl), fun _ _ _ _ => pts_one (pt_cmpR (eqDK (K := K) hr.units rfl) (pe_callO M_Poly___call__ (fnIn_of M_Poly___call__.fn M_Poly___call__.kp) G_Poly___call__ (hr.mono (by decide)) b_Poly___call__ passN (pv 0) (pa_cons (pv 1) pa_nil)) (pe_methS0 (pe_fldK (K := K) rfl (pv 0) rfl) kl_Field M_Field_zero G_Field_zero (hr.mono (by decide)) b_Field_zero passN) (nomark _)), fun _ _ _ _ => (pv 1)⟩) pa_nil))))), ?_⟩
    have g0 := Gr.refl (A := []) H0
    refine rd_seq (rd_if (rd_B (rd_meth (rd_var rfl (meth_Poly h_f (by decide +kernel) (rd_nil ⟨_, _, rfl, h_f, wp_imp (wp_bindN hm) (fun t1 hm H2 g3 => ?_) (fun _ e => e)⟩))))))
    have h_f := Imm.mono g3 h_f
    have g0 := g0.of0' g3
    refine rd_kB ?_
    refine iteB (fun e4 => ?_) (fun e4 => ?_)
    · have hm := ifT e4 (wp_iteB hm)
      exact xe0_at hm rfl g0
    have hm := ifF e4 (wp_iteB hm)
    refine rd_next (rd_nx ?_)
    refine rd_ret (rd_cb (rd_cons (rd_lc (rd_igen (rd_fld (rd_var rfl (fld_Poly_field h_f kl_Poly na_Poly_field fun v5 h6 => ?_)))))))
    refine gen_Field_members h6 fun a7 vs8 hl9 hp10 => ?_
    refine fun p11 n12 => ?_
    have nw13 := Gr.free g0 n12
    refine lc_R (r := (rT K rI)) (H0 := H2) (H1 := H2) (wk_gen hp10) (fun (s : List (List Int)) (H : Hp) => Gr [] H2 H ∧ Ls (rT K rI) H p11 s) (wp_bind hm) ⟨Gr.new n12, ⟨[], upd_same, .nil⟩⟩ (fun _ _ hr => by obtain ⟨g, _⟩ := hr; exact ⟨g.tup hl9, _, g⟩) (fun x18 v19 s17 H21 H27 N22 hr23 hg28 hx20 hm => ?_) (fun s24 H25 hr26 hm => ?_)
    · unfold m_roots_b1 at hm
      obtain ⟨g29, h30⟩ := hr23
      have h_f := Imm.mono g29 h_f
      have g0 := Gr.of0' g0 g29
      have gl31 := g29
      have h_f := Imm.mono hg28 h_f
      have h30 := Ls.g0 hg28 h30
      have g0 := g0.of0' hg28
      have gl31 := gl31.of0' hg28
      refine rd_gn ⟨rfl, ?_⟩
      refine rd_T (rd_op (rd_callO (rd_var rfl (callO_of (ins_Poly h_f) (rd_cons (rd_var rfl (rd_nil (uop_of (ins_Poly h_f) ⟨_, _, _, _, rfl, h_f, hx20, wp_imp (wp_bindN hm) (fun t32 hm v35 H33 g34 h36 => ?_) (fun _ e => e)⟩))))))))
      have h_f := Imm.mono g34 h_f
      have hx20 := Imm.mono g34 hx20
      have h30 := Ls.g0 g34 h30
      have g0 := g0.of0' g34
      have gl31 := gl31.of0' g34
      refine rd_meth (rd_fld (rd_var rfl (fld_Poly_field h_f kl_Poly na_Poly_field fun v37 h38 => ?_)))
      refine meth_Field h38 (by decide +kernel) (rd_nil ⟨_, _, rfl, h38, wp_imp (wp_bindN hm) (fun t39 hm v42 H40 g41 h43 => ?_) (fun _ e => e)⟩)
      have h_f := Imm.mono g41 h_f
      have hx20 := Imm.mono g41 hx20
      have h30 := Ls.g0 g41 h30
      have h36 := Imm.mono g41 h36
      have g0 := g0.of0' g41
      have gl31 := gl31.of0' g41
      refine eq_D (DRep.tup (DRep.int K)) h36 h43 (rd_kB ?_)
      refine iteB' (fun e44 => ?_) (fun e44 => ?_)
      · exact ifF e44 (wp_iteB hm) _ ⟨gl31, h30⟩
      have hm := ifT e44 (wp_iteB hm)
      obtain ⟨c45, hm⟩ := wp_grd hm
      refine rd_var rfl (lc_add h30 hx20 c45 fun H46 g47 h48 => ?_)
      have h_f := Imm.mono g47 h_f
      have hx20 := Imm.mono g47 hx20
      have g0 := Gr.loc g0 nw13 g47
      have gl31 := Gr.loc gl31 n12 g47
      exact hm _ ⟨gl31, h48⟩
    obtain ⟨g49, h50⟩ := hr26
    have h_f := Imm.mono g49 h_f
    have g0 := Gr.of0' g0 g49
    refine rd_nil (tup_of_L (K := K) (Ls.q h50) fun v51 H52 g53 h54 => ?_)
    have h_f := Imm.mono g53 h_f
    have g0 := g0.of0' g53
    exact hm _ _ g0 h54

abbrev s_law : Stmt := topS 56
abbrev n_law : List Str := ["script", "numbers", "field", "row", "a", "due", "number", "turn"]
theorem sc_law : FnScope n_law ["script"] (defScope s_law) := ⟨rfl, rfl, rfl, by decide +kernel, rfl, by decide +kernel, by decide +kernel⟩
def m_law_b1 (t9 : O_Field × (List Int)) (s27 : List (List Int) × List Int) (x28 : Int) : R (List (List Int) × List Int) :=
  (m__law_next s27.2 t9.1.2.2.2.1).bind fun t47 => (m__law_member t9.1.1 t9.1.2.2.1 t47.1).bind fun t51 => grd (lenLt s27.1) <| R.ok ((s27.1 ++ [t51]), t47.2)
def m_law_b2 (t9 : O_Field × (List Int)) (s81 : List (List Int)) (x82 : (List Int)) : R (List (List Int)) :=
  (m__law_zero t9.1).bind fun t94 => if (!decide (x82 = t94)) = true then (grd (lenLt s81) <| R.ok (s81 ++ [x82])) else R.ok s81
def m_law_b3 (t9 : O_Field × (List Int)) (s66 : (List (List Int))) (s150 : (List (List Int))) (x158 : Int) : R ((List (List Int))) :=
  (m__law_member t9.1.1 t9.1.2.2.1 x158).bind fun t170 => (m__law_value t9.1 s66 t170).bind fun t175 => (m__law_zero t9.1).bind fun t180 => if (decide (t175 = t180)) = true then (grd (lenLt s150) <| R.ok (s150 ++ [t170])) else (R.ok s150)
def m_law (a_script : (List Int)) : R Bool :=
  (m__law_numbers a_script).bind fun t1 => (m__law_field t1 (7 : Int)).bind fun t9 => (m__law_next t9.2 (5 : Int)).bind fun t15 => grd (rgOk ((1 : Int) + t15.1)) <| (foldR (m_law_b1 t9) ([], t15.2) (rng 0 (((1 : Int) + t15.1)).toNat)).bind fun s34 => ((foldR (m_law_b2 t9) ([]) s34.1).bind fun s88 => if (decide (((s88).length : Int) = (0 : Int))) = true then ((m__law_one t9.1).bind fun t107 => grd (lenOk (s34.1 ++ [t107])) <| R.ok (s34.1 ++ [t107])) else (R.ok s34.1)).bind fun s66 => (grd (rgOk t9.1.2.2.2.1) <| foldR (m_law_b3 t9 s66) ([] : List (List Int)) (rng 0 (t9.1.2.2.2.1).toNat)).bind fun s144 => (m_Poly___init__ () t9.1 s66).bind fun t200 => (m_roots t200).bind fun t204 => if (!decide (t204 = s144)) = true then (R.ok false) else ((tryR ((m_Poly___init__ () t9.1 ([] : List (List Int))).bind fun t245 => (m_roots t245).bind fun t249 => R.ok (Le.rt false)) (fun e => Er.on e (R.ok (Le.rt true)) (R.er (.mal)) (fun r => R.er (.refu r)) (fun i => R.er (.nt i)))).bind fun o => Le.thn o (fun (_ : Unit) => R.out) (fun r => R.ok r))
def sp_law (K : PySem.W.Frag) (TT : List Addr) : Sp := fun vs H Q _ => ∃ (a_script : (List Int)) (p_script : Addr), vs = [.ref p_script] ∧ Lq K rI H p_script a_script ∧ TabsA TT H ∧ wp (m_law a_script) (fun r => ∀ H', Gr [] H H' → Q (.bl r) H') (fun _ => False)
theorem ok_law {P : Program} {w : World} {K : PySem.W.Frag} {mg : Str → Option Value} {base : Heap} {f : Addr} {fd : FuncData} {c_fault c_zd c_mal c_refu : Addr} {TT : List Addr} {c_Field c_Poly : Addr} (F : Fun K "law" "law" s_law f fd) (z_range : mg "range" = none) (z_len : mg "len" = none) (z_list : mg "list" = none) (kl_Field : Cls K c_Field) (na_Field_p : NoAttr K c_Field "p") (na_Field_n : NoAttr K c_Field "n") (na_Field_q : NoAttr K c_Field "q") (em_zd_zd : PySem.W.exmOne K (.ref c_zd) (.ref c_zd) = some true) (gc_zd : mg "ZeroDivisor" = some (.ref c_zd)) (c__law_numbers : Cal P w K mg base CX0 1 "_law_numbers" ["script"] (sp__law_numbers K)) (c__law_field : Cal P w K mg base CX0 11 "_law_field" ["numbers", "most"] (sp__law_field K c_Field TT)) (c__law_next : Cal P w K mg base CX0 1 "_law_next" ["numbers", "many"] (sp__law_next K)) (c__law_member : Cal P w K mg base CX0 1 "_law_member" ["p", "n", "number"] (sp__law_member K)) (c__law_zero : Cal P w K mg base CX0 2 "_law_zero" ["field"] (sp__law_zero K c_Field)) (c__law_one : Cal P w K mg base CX0 2 "_law_one" ["field"] (sp__law_one K c_Field)) (c__law_value : Cal P w K mg base CX0 3 "_law_value" ["field", "row", "a"] (sp__law_value K c_Field)) (c_Poly___init__ : CalI P w K mg base (CX P w) 3 c_Poly "Poly" ["self", "field", "row"] (sp_Poly___init__ K c_Field c_Poly (⟨some c_fault, some c_zd, some c_mal, some c_refu, none⟩ : Xc))) (c_roots : Cal P w K mg base (CX P w) 3 "roots" ["f"] (sp_roots K c_Field c_Poly (⟨some c_fault, some c_zd, some c_mal, some c_refu, none⟩ : Xc))) : FnOk P w K mg base CX0 12 f fd ["script"] (sp_law K TT) := by
  obtain ⟨f__law_numbers, fd__law_numbers, G__law_numbers, g__law_numbers, k__law_numbers, b__law_numbers⟩ := c__law_numbers
  obtain ⟨f__law_field, fd__law_field, G__law_field, g__law_field, k__law_field, b__law_field⟩ := c__law_field
  obtain ⟨f__law_next, fd__law_next, G__law_next, g__law_next, k__law_next, b__law_next⟩ := c__law_next
  obtain ⟨f__law_member, fd__law_member, G__law_member, g__law_member, k__law_member, b__law_member⟩ := c__law_member
  obtain ⟨f__law_zero, fd__law_zero, G__law_zero, g__law_zero, k__law_zero, b__law_zero⟩ := c__law_zero
  obtain ⟨f__law_one, fd__law_one, G__law_one, g__law_one, k__law_one, b__law_one⟩ := c__law_one
  obtain ⟨f__law_value, fd__law_value, G__law_value, g__law_value, k__law_value, b__law_value⟩ := c__law_value
  obtain ⟨f_Poly___init__, fd_Poly___init__, G_Poly___init__, M_Poly___init__, g_Poly___init__, b_Poly___init__⟩ := c_Poly___init__
  obtain ⟨f_roots, fd_roots, G_roots, g_roots, k_roots, b_roots⟩ := c_roots
  refine F.ok sc_law (fun vs H Q E h => ?_) (fun cdv A outer s H0 vs Q E hr h => ?_)
  · obtain ⟨a_script, p_script, rfl, h_script, hTT, hm⟩ := h
    rfl
  · obtain ⟨a_script, p_script, rfl, h_script, hTT, hm⟩ := h
    have hm : wp (m_law a_script) _ _ := hm
    unfold m_law at hm
    refine ⟨_, (pss_cons (ps_set (i := 1) sc_law.nd rfl (Or.inr rfl) (pe_call G__law_numbers (hr.mono (by decide)) (by rfl) g__law_numbers k__law_numbers b__law_numbers .nil pass0 (pa_cons (pv 0) pa_nil))) (pss_cons (ps_set (i := 2) sc_law.nd rfl (Or.inr rfl) (pe_call G__law_field (hr.mono (by decide)) (by rfl) g__law_field k__law_field b__law_field .nil pass0 (pa_cons (pv 1) (pa_cons pe_int pa_nil)))) (pss_cons (ps_setLc (i := 3) (own := [("turn", 7)]) (g := gName 7) (tt := tYes) rfl sc_law.nd rfl rfl (sw_true rfl rfl rfl (by decide +kernel)) (pi_range1 (by rfl) z_range (pa_cons (pe_op op_add pe_int (pe_call G__law_next (hr.mono (by decide)) (by rfl) g__law_next k__law_next b__law_next .nil pass0 (pa_cons (pv 1) (pa_cons pe_int pa_nil)))) pa_nil)) (blkOk_by (own := [("turn", 7)]) (N := n_law) (sc := defScope s_law) (by decide +kernel)) (fun _ _ _ _ _ => pg_name (i := 7) sc_law.nd rfl (Or.inl rfl)) (fun _ _ _ _ _ => pts_nil) (fun _ _ _ _ _ => (pe_call G__law_member (hr.mono (by decide)) (by rfl) g__law_member k__law_member b__law_member .nil pass0 (pa_cons (pe_fldK (K := K) rfl (pv 2) rfl) (pa_cons (pe_fldK (K := K) rfl (pv 2) rfl) (pa_cons (pe_call G__law_next (hr.mono (by decide)) (by rfl) g__law_next k__law_next b__law_next .nil pass0 (pa_cons (pv 1) (pa_cons (pe_fldK (K := K) rfl (pv 2) rfl) pa_nil))) pa_nil)))))) (pss_cons (ps_if (pt_cmpR op_eqI (pe_callB (lenK (K := K) rfl) (by rfl) z_len PySem.boot_len (pa_cons (pe_lc (own := [("a", 4)]) (g := gName 4) rfl sc_law.nd (pi_listK (K := K) (pv 3) rfl) (blkOk_by (own := [("a", 4)]) (N := n_law) (sc := defScope s_law) (by decide +kernel)) (fun _ _ _ _ _ => pg_name (i := 4) sc_law.nd rfl (Or.inl rfl)) (fun _ _ _ _ _ => pts_one (pt_cmpR (neDK (K := K) hr.units rfl) (pv 4) (pe_call G__law_zero (hr.mono (by decide)) (by rfl) g__law_zero k__law_zero b__law_zero .nil pass0 (pa_cons (pv 2) pa_nil)) (nomark _))) (fun _ _ _ _ _ => (pv 4))) pa_nil)) pe_int (nomark _)) (pss_one (ps_set (i := 3) sc_law.nd rfl (Or.inl rfl) (pe_op op_cat (pv 3) (pe_lst (pa_cons (pe_call G__law_one (hr.mono (by decide)) (by rfl) g__law_one k__law_one b__law_one .nil pass0 (pa_cons (pv 2) pa_nil)) pa_nil))))) pss_nil) (pss_cons (ps_set (i := 5) sc_law.nd rfl (Or.inl rfl) (pe_lst pa_nil)) (pss_cons (ps_for PassesOwn.never rfl (pi_range1 (by rfl) z_range (pa_cons (pe_fldK (K := K) rfl (pv 2) rfl) pa_nil)) (pg_name (i := 6) sc_law.nd rfl (Or.inl rfl)) (pss_cons (ps_set (i := 4) sc_law.nd rfl (Or.inl rfl) (pe_call G__law_member (hr.mono (by decide)) (by rfl) g__law_member k__law_member b__law_member .nil pass0 (pa_cons (pe_fldK (K := K) rfl (pv 2) rfl) (pa_cons (pe_fldK (K := K) rfl (pv 2) rfl) (pa_cons (pv 6) pa_nil))))) (pss_one (ps_if (pt_cmpR (eqDK (K := K) hr.units rfl) (pe_call G__law_value (hr.mono (by decide)) (by rfl) g__law_value k__law_value b__law_value .nil pass0 (pa_cons (pv 2) (pa_cons (pv 3) (pa_cons (pv 4) pa_nil)))) (pe_call G__law_zero (hr.mono (by decide)) (by rfl) g__law_zero k__law_zero b__law_zero .nil pass0 (pa_cons (pv 2) pa_nil)) (nomark _)) (pss_one (ps_expr (pe_bm PySem.F.plainAttrs_list PySem.F.slot_list_append PySem.F.type_list_append mt_append (pv 5) (pa_cons (pv 4) pa_nil)))) pss_nil)))) (pss_cons (ps_if (pt_cmpR (neDK (K := K) hr.units rfl) (pe_callTy (listK (K := K) rfl) (by rfl) z_list (by decide +kernel) (pa_cons (pe_call G_roots (hr.mono (by decide)) (by rfl) g_roots k_roots b_roots .nil passL (pa_cons (pe_makeS M_Poly___init__ G_Poly___init__ (hr.mono (by decide)) (by rfl) g_Poly___init__ b_Poly___init__ passLS (pa_cons (pv 2) (pa_cons (pv 3) pa_nil))) pa_nil)) pa_nil)) (pv 5) (nomark _)) (pss_one (ps_ret pe_bl)) pss_nil) (pss_one (ps_tryOnly rfl rfl ⟨by rfl, by decide, .inl gc_zd⟩ takes0 (fun W pn xe tk po => (pss_cons (ps_expr (pe_callS G_roots (hr.mono (by decide)) (by rfl) g_roots k_roots b_roots (fun σ => passAt tk σ) (pa_cons (pe_makeS M_Poly___init__ G_Poly___init__ (hr.mono (by decide)) (by rfl) g_Poly___init__ b_Poly___init__ (fun σ => passAt tk σ) (pa_cons (pv 2) (pa_cons (pe_lst pa_nil) pa_nil))) pa_nil))) (pss_one (ps_ret pe_bl)))) (fun ax oe cls d pn hz hf => (pss_one (ps_ret pe_bl)))))))))))), ?_⟩
    have g0 := Gr.refl (A := []) H0
    refine rd_seq (rd_asg (rd_call (rd_cons (rd_var rfl (rd_nil ⟨_, _, rfl, h_script, wp_imp (wp_bind hm) (fun t1 hm p4 H2 g3 n5 h6 => ?_) (fun _ e => e)⟩)))))
    have ne7 := sep_new (p := p4) h_script n5
    have nw8 := Gr.free g0 n5
    have h_script := Lq.g0 g3 h_script
    have g0 := g0.of0' g3
    refine rd_gn ?_
    refine rd_nx ?_
    refine rd_seq (rd_asg (rd_call (rd_cons (rd_var rfl (rd_cons (rd_c (rd_nil ⟨_, _, _, rfl, h6, (hTT.gr g0), wp_imp (wp_bind hm) (fun t9 hm v12 H10 g11 h13 h14 => ?_) (fun _ e => e)⟩)))))))
    have g0 := Gr.loc g0 nw8 g11
    refine rd_gn ?_
    refine rd_nx ?_
    refine rd_seq (rd_asg (rd_lc (rd_r1 (rd_cons (rd_op (rd_c (rd_call (rd_cons (rd_var rfl (rd_cons (rd_c (rd_nil ⟨_, _, _, rfl, h14, wp_imp (wp_bind hm) (fun t15 hm H16 g17 h18 => ?_) (fun _ e => e)⟩))))))))))))
    have h13 := Imm.mono g17 h13
    have g0 := Gr.loc g0 nw8 g17
    obtain ⟨c19, hm⟩ := wp_grd hm
    refine rd_rI0 (rd_nil ⟨_, rfl, c19.1, c19.2, fun p20 n21 => ?_⟩)
    have ne22 : p4 ≠ p20 := Ls.ne h18 n21
    have nw23 := Gr.free g0 n21
    refine lc_rng (lo := 0) (n := (((1 : Int) + t15.1)).toNat) (fun (s : List (List Int) × List Int) (H : Hp) => Gr [p4] H16 H ∧ Ls (rT K rI) H p20 s.1 ∧ Ls rI H p4 s.2) (wp_bind hm) ⟨Gr.new n21, ⟨[], upd_same, .nil⟩, Ls.g0 (Gr.new (A := []) n21) h18⟩ (fun x28 s27 H31 N32 hr33 hm => ?_) (fun s34 H35 hr36 hm => ?_)
    · unfold m_law_b1 at hm
      obtain ⟨g37, h38, h39⟩ := hr33
      have h13 := Imm.mono g37 h13
      have g0 := Gr.many g0 (all1 ((.inr nw8)) all0) g37
      have gl40 := g37
      refine rd_gn ⟨rfl, rd_yes (iteT (rd_call (rd_cons (rd_fld (rd_var rfl (fld_Field_p h13 kl_Field na_Field_p fun v41 h42 => ?_))))))⟩
      obtain rfl := h42
      refine rd_cons (rd_fld (rd_var rfl (fld_Field_n h13 kl_Field na_Field_n fun v43 h44 => ?_)))
      obtain rfl := h44
      refine rd_cons (rd_call (rd_cons (rd_var rfl (rd_cons (rd_fld (rd_var rfl (fld_Field_q h13 kl_Field na_Field_q fun v45 h46 => ?_)))))))
      obtain rfl := h46
      refine rd_nil ⟨_, _, _, rfl, h39, wp_imp (wp_bind hm) (fun t47 hm H48 g49 h50 => ?_) (fun _ e => e)⟩
      have h13 := Imm.mono g49 h13
      have h38 := Ls.g1 g49 (Ne.symm ne22) h38
      have g0 := Gr.loc g0 nw8 g49
      have gl40 := Gr.at1 gl40 (by simp) g49
      refine rd_nil ⟨_, _, _, rfl, wp_imp (wp_bind hm) (fun t51 hm v54 H52 g53 h55 => ?_) (fun _ e => e)⟩
      have h13 := Imm.mono g53 h13
      have h50 := Ls.g0 g53 h50
      have h38 := Ls.g0 g53 h38
      have g0 := g0.of0' g53
      have gl40 := gl40.of0' g53
      obtain ⟨c56, hm⟩ := wp_grd hm
      refine lc_add h38 h55 c56 fun H57 g58 h59 => ?_
      have h13 := Imm.mono g58 h13
      have h50 := Ls.g1 g58 ne22 h50
      have g0 := Gr.loc g0 nw23 g58
      have gl40 := Gr.loc gl40 n21 g58
      exact hm _ ⟨gl40, h59, h50⟩
    obtain ⟨g60, h61, h62⟩ := hr36
    have h13 := Imm.mono g60 h13
    have g0 := Gr.many g0 (all1 ((.inr nw8)) all0) g60
    refine rd_gn ?_
    refine rd_nx ?_
    refine seq_join (t := tIfS _ _ _) (wp_bind hm) (fun (s : (List (List Int))) (σ : L2.St) (H : Hp) => ∃ (q129 : Addr), σ = [some (.ref p_script), some (.ref p4), some v12, some (.ref q129), none, none, none, none] ∧ Gr [] H35 H ∧ Ls (rT K rI) H q129 s ∧ H0 q129 = none) (fun N64 hN65 hm => ?_) (fun s66 σ H67 hr68 hm => ?_)
    · have gl69 := Gr.refl (A := []) H35
      obtain ⟨vs70, hl71, hp72⟩ := id (Ls.q h61)
      refine rd_if (rd_T (rd_op (rd_cb (rd_cons (rd_lc (rd_il (rd_var rfl ⟨_, rfl, ⟨_, hl71⟩, fun p73 n74 => ?_⟩)))))))
      have ne75 : p20 ≠ p73 := Ls.ne h61 n74
      have nw76 := Gr.free g0 n74
      have nw77 := Gr.free gl69 n74
      refine lc_lst (r := (rT K rI)) (H1 := H35) (fun (s : List (List Int)) (H : Hp) => Gr [] H35 H ∧ Ls (rT K rI) H p73 s) hp72 (wp_bind hm) ⟨Gr.new n74, ⟨[], upd_same, .nil⟩⟩ (fun _ _ hr => by obtain ⟨g, _⟩ := hr; exact g.lst nin0 hl71) (fun x82 v83 s81 H85 N86 hx84 hr87 hm => ?_) (fun s88 H89 hr90 hm => ?_)
      · unfold m_law_b2 at hm
        obtain ⟨g91, h92⟩ := hr87
        have h13 := Imm.mono g91 h13
        have h61 := Ls.gA g91 nin0 h61
        have g0 := Gr.of0' g0 g91
        have gl69 := Gr.of0' gl69 g91
        have gl93 := g91
        have hx84 := Imm.mono g91 hx84
        refine rd_gn ⟨rfl, ?_⟩
        refine rd_T (rd_op (rd_var rfl (rd_call (rd_cons (rd_var rfl (rd_nil ⟨_, _, rfl, h13, wp_imp (wp_bind hm) (fun t94 hm v97 H95 g96 h98 => ?_) (fun _ e => e)⟩))))))
        have h13 := Imm.mono g96 h13
        have h61 := Ls.g0 g96 h61
        have hx84 := Imm.mono g96 hx84
        have h92 := Ls.g0 g96 h92
        have g0 := g0.of0' g96
        have gl69 := gl69.of0' g96
        have gl93 := gl93.of0' g96
        refine ne_D (DRep.tup (DRep.int K)) hx84 h98 (rd_kB ?_)
        refine iteB' (fun e99 => ?_) (fun e99 => ?_)
        · exact ifF e99 (wp_iteB hm) _ ⟨gl93, h92⟩
        have hm := ifT e99 (wp_iteB hm)
        obtain ⟨c100, hm⟩ := wp_grd hm
        refine rd_var rfl (lc_add h92 hx84 c100 fun H101 g102 h103 => ?_)
        have h13 := Imm.mono g102 h13
        have h61 := Ls.g1 g102 ne75 h61
        have hx84 := Imm.mono g102 hx84
        have g0 := Gr.loc g0 nw76 g102
        have gl69 := Gr.loc gl69 nw77 g102
        have gl93 := Gr.loc gl93 n74 g102
        exact hm _ ⟨gl93, h103⟩
      obtain ⟨g104, h105⟩ := hr90
      have h13 := Imm.mono g104 h13
      have h61 := Ls.gA g104 nin0 h61
      have g0 := Gr.of0' g0 g104
      have gl69 := Gr.of0' gl69 g104
      refine rd_nil (len_L (Ls.q h105) (rd_c (rd_rI0 (rd_kB ?_))))
      refine iteB (fun e106 => ?_) (fun e106 => ?_)
      · have hm := ifT e106 (wp_iteB hm)
        refine rd_asg (rd_op (rd_var rfl (rd_lst (rd_cons (rd_call (rd_cons (rd_var rfl (rd_nil ⟨_, _, rfl, h13, wp_imp (wp_bind hm) (fun t107 hm v110 H108 g109 h111 => ?_) (fun _ e => e)⟩))))))))
        have h13 := Imm.mono g109 h13
        have h61 := Ls.g0 g109 h61
        have g0 := g0.of0' g109
        have gl69 := gl69.of0' g109
        refine rd_nil (mk_L (r := (rT K rI)) (xs := [t107]) (.cons h111 .nil) (by show 1 ≤ sizeLine; decide) fun p112 H113 n114 g115 h116 => ?_)
        have ne117 : p20 ≠ p112 := Ls.ne h61 n114
        have nw118 := Gr.free g0 n114
        have nw119 := Gr.free gl69 n114
        have h13 := Imm.mono g115 h13
        have h61 := Ls.g0 g115 h61
        have g0 := g0.of0' g115
        have gl69 := gl69.of0' g115
        obtain ⟨c120, hm⟩ := wp_grd hm
        refine cat_L h61 h116 c120 fun p121 H122 n123 g124 h125 => ?_
        have ne126 : p20 ≠ p121 := Ls.ne h61 n123
        have nw127 := Gr.free g0 n123
        have nw128 := Gr.free gl69 n123
        have h13 := Imm.mono g124 h13
        have h61 := Ls.g0 g124 h61
        have g0 := g0.of0' g124
        have gl69 := gl69.of0' g124
        refine rd_gn ?_
        exact hN65 _ _ _ ⟨_, rfl, gl69, h125, nw127⟩ hm
      have hm := ifF e106 (wp_iteB hm)
      exact rd_next (hN65 _ _ _ ⟨_, rfl, gl69, h61, nw23⟩ hm)
    obtain ⟨q132, rfl, g130, h131, nw133⟩ := hr68
    have h13 := Imm.mono g130 h13
    have g0 := Gr.of0' g0 g130
    refine rd_seq (rd_asg (rd_lst (rd_nil (mk_L (r := (rT K rI)) (xs := ([] : List (List Int))) .nil (by show 0 ≤ sizeLine; decide) fun p134 H135 n136 g137 h138 => ?_))))
    have ne139 : q132 ≠ p134 := Ls.ne h131 n136
    have nw140 := Gr.free g0 n136
    have h13 := Imm.mono g137 h13
    have h131 := Ls.g0 g137 h131
    have g0 := g0.of0' g137
    refine rd_gn ?_
    refine rd_nx ?_
    refine seq_join (t := tFor _ _ _) (wp_bind hm) (fun (s : (List (List Int))) (σ : L2.St) (H : Hp) => ∃ (o148 : Option V) (o149 : Option V), σ = [some (.ref p_script), some (.ref p4), some v12, some (.ref q132), o148, some (.ref p134), o149, none] ∧ Gr [p134] H135 H ∧ Ls (rT K rI) H p134 s) (fun N142 hN143 hm => ?_) (fun s144 σ H145 hr146 hm => ?_)
    · have gl147 := Gr.refl (A := [p134]) H135
      refine rd_for (rd_r1 (rd_cons (rd_fld (rd_var rfl (fld_Field_q h13 kl_Field na_Field_q fun v154 h155 => ?_)))))
      obtain rfl := h155
      obtain ⟨c156, hm⟩ := wp_grd hm
      have gl157 := Gr.refl (A := [p134]) H135
      refine rd_nil ⟨_, rfl, c156.1, c156.2, for_rngR (lo := 0) (n := (t9.1.2.2.2.1).toNat) (fun (s : (List (List Int))) (σ : L2.St) (H : Hp) => ∃ (o148 : Option V) (o149 : Option V), σ = [some (.ref p_script), some (.ref p4), some v12, some (.ref q132), o148, some (.ref p134), o149, none] ∧ Gr [p134] H135 H ∧ Ls (rT K rI) H p134 s) (by exact wp_N hm (fun s σ' H' hr hz => hN143 s σ' H' hr hz)) ⟨_, _, rfl, gl157, h138⟩ (fun x158 s150 σ H151 N153 hr152 hm => ?_)⟩
      unfold m_law_b3 at hm
      obtain ⟨o163, o165, rfl, g162, h164⟩ := hr152
      have h13 := Imm.mono g162 h13
      have h131 := Ls.gA g162 (nin1 ne139 nin0) h131
      have g0 := Gr.many g0 (all1 ((.inr nw140)) all0) g162
      have gl157 := Gr.many gl157 (all1 ((.inl (by simp))) all0) g162
      refine rd_gn (rd_seq (rd_asg (rd_call (rd_cons (rd_fld (rd_var rfl (fld_Field_p h13 kl_Field na_Field_p fun v166 h167 => ?_)))))))
      obtain rfl := h167
      refine rd_cons (rd_fld (rd_var rfl (fld_Field_n h13 kl_Field na_Field_n fun v168 h169 => ?_)))
      obtain rfl := h169
      refine rd_cons (rd_var rfl (rd_nil ⟨_, _, _, rfl, wp_imp (wp_bind hm) (fun t170 hm v173 H171 g172 h174 => ?_) (fun _ e => e)⟩))
      have h13 := Imm.mono g172 h13
      have h131 := Ls.g0 g172 h131
      have h164 := Ls.g0 g172 h164
      have g0 := g0.of0' g172
      have gl157 := gl157.of0' g172
      refine rd_gn ?_
      refine rd_nx ?_
      refine rd_if (rd_T (rd_op (rd_call (rd_cons (rd_var rfl (rd_cons (rd_var rfl (rd_cons (rd_var rfl (rd_nil ⟨_, _, _, _, _, _, rfl, h13, h131, h174, wp_imp (wp_bind hm) (fun t175 hm v178 H176 g177 h179 => ?_) (fun _ e => e)⟩))))))))))
      have h13 := Imm.mono g177 h13
      have h131 := Ls.g0 g177 h131
      have h164 := Ls.g0 g177 h164
      have h174 := Imm.mono g177 h174
      have g0 := g0.of0' g177
      have gl157 := gl157.of0' g177
      refine rd_call (rd_cons (rd_var rfl (rd_nil ⟨_, _, rfl, h13, wp_imp (wp_bind hm) (fun t180 hm v183 H181 g182 h184 => ?_) (fun _ e => e)⟩)))
      have h13 := Imm.mono g182 h13
      have h131 := Ls.g0 g182 h131
      have h164 := Ls.g0 g182 h164
      have h174 := Imm.mono g182 h174
      have h179 := Imm.mono g182 h179
      have g0 := g0.of0' g182
      have gl157 := gl157.of0' g182
      refine eq_D (DRep.tup (DRep.int K)) h179 h184 (rd_kB ?_)
      refine iteB (fun e185 => ?_) (fun e185 => ?_)
      · have hm := ifT e185 (wp_iteB hm)
        obtain ⟨c186, hm⟩ := wp_grd hm
        refine rd_drop (rd_bm (rd_var rfl ⟨(Ls.ty h164), rd_cons (rd_var rfl (rd_nil (rd_append h164 h174 c186 fun H187 g188 h189 => ?_)))⟩))
        have h13 := Imm.mono g188 h13
        have h131 := Ls.g1 g188 ne139 h131
        have h174 := Imm.mono g188 h174
        have g0 := Gr.loc g0 nw140 g188
        have gl157 := Gr.at1 gl157 (by simp) g188
        exact hm _ _ ⟨_, _, rfl, gl157, h189⟩
      have hm := ifF e185 (wp_iteB hm)
      exact rd_next (hm _ _ ⟨_, _, rfl, gl157, h164⟩)
    obtain ⟨o191, o193, rfl, g190, h192⟩ := hr146
    have h13 := Imm.mono g190 h13
    have h131 := Ls.gA g190 (nin1 ne139 nin0) h131
    have g0 := Gr.many g0 (all1 ((.inr nw140)) all0) g190
    refine rd_seq (rd_if (rd_T (rd_op (rd_cb (rd_cons (rd_call (rd_cons (rd_make (rd_cons (rd_var rfl (rd_cons (rd_var rfl (rd_nil (fun p194 d195 n196 n197 n198 => ?_))))))))))))))
    have g199 := gr_make (C := c_Poly) n196 n197 n198
    refine ⟨(), _, _, _, _, _, _, H145, rfl, g199, n196, upd_same, (Imm.mono g199 h13), (Ls.g0 g199 h131), wp_imp (wp_bind hm) (fun t200 hm H201 g202 h203 => ⟨rfl, ?_⟩) (fun _ e => False.elim e)⟩
    have h13 := Imm.mono g202 h13
    have h131 := Ls.g0 g202 h131
    have h192 := Ls.g0 g202 h192
    have g0 := g0.of0' g202
    refine rd_nil ⟨_, _, rfl, h203, wp_imp (wp_bind hm) (fun t204 hm v207 H205 g206 h208 => ?_) (fun _ e => False.elim e)⟩
    have h13 := Imm.mono g206 h13
    have h131 := Ls.g0 g206 h131
    have h192 := Ls.g0 g206 h192
    have g0 := g0.of0' g206
    refine rd_nil (lst_of_T h208 fun p209 H210 n211 g212 h213 => ?_)
    have ne214 : q132 ≠ p209 := Ls.ne h131 n211
    have ne215 : p134 ≠ p209 := Ls.ne h192 n211
    have nw216 := Gr.free g0 n211
    have h13 := Imm.mono g212 h13
    have h131 := Ls.g0 g212 h131
    have h192 := Ls.g0 g212 h192
    have g0 := g0.of0' g212
    refine rd_var rfl (ne_D (DRep.lst (DRep.tup (DRep.int K))) (rL_of (Ls.q h213)) (rL_of (Ls.q h192)) (rd_kB ?_))
    refine iteB (fun e217 => ?_) (fun e217 => ?_)
    · have hm := ifT e217 (wp_iteB hm)
      exact rd_ret (rd_c (hm _ g0))
    have hm := ifF e217 (wp_iteB hm)
    refine rd_next (rd_nx ?_)
    refine nx_joinL (t := tTryOnly _ _ _ _ _) (wp_le hm) (fun (s : Unit) (σ : L2.St) (H : Hp) => σ = [some (.ref p_script), some (.ref p4), some v12, some (.ref q132), o191, some (.ref p134), o193, none] ∧ Gr [] H210 H) (fun N hm => ?_) (fun s220 σ H221 hr222 hm => ?_)
    · have gl223 := Gr.refl (A := []) H210
      refine rd_tryOnly (⟨some c_fault, some c_zd, some c_mal, some c_refu, none⟩ : Xc) ((fun (s : Unit) (σ : L2.St) (H : Hp) => σ = [some (.ref p_script), some (.ref p4), some v12, some (.ref q132), o191, some (.ref p134), o193, none] ∧ Gr [] H210 H) ()) hm (fun e σ H224 hrx hm => ?_) (fun W226 hx225 hm => ?_)
      · skip
        obtain ⟨rfl, g227⟩ := hrx
        have h13 := Imm.mono g227 h13
        have g0 := Gr.of0' g0 g227
        have gl223 := Gr.of0' gl223 g227
        cases e with
        | zd =>
          have hm := wp_on_zd hm
          refine ⟨_, rfl, fun H228 g229 => ⟨true, em_zd_zd, fun _ ax hax => ?_, fun q => nomatch q⟩⟩
          have h13 := Imm.mono g229 h13
          have g0 := g0.of0' g229
          have gl223 := gl223.of0' g229
          exact rd_ret (rd_c (hm _ g0))
        | mal => exact (show False from hm).elim
        | refu r => exact (show False from hm).elim
        | nt i => exact (show False from hm).elim
      refine rd_seq (rd_drop (rd_callS (rd_cons (rd_make (rd_cons (rd_var rfl (rd_cons (rd_lst (rd_nil (mk_L (r := (rT K rI)) (xs := ([] : List (List Int))) .nil (by show 0 ≤ sizeLine; decide) fun p232 H233 n234 g235 h236 => ?_))))))))))
      have nw237 := Gr.free g0 n234
      have nw238 := Gr.free gl223 n234
      have h13 := Imm.mono g235 h13
      have g0 := g0.of0' g235
      have gl223 := gl223.of0' g235
      refine rd_nil (fun p239 d240 n241 n242 n243 => ?_)
      have g244 := gr_make (C := c_Poly) n241 n242 n243
      refine ⟨(), _, _, _, _, _, _, H233, rfl, g244, n241, upd_same, (Imm.mono g244 h13), (Ls.g0 g244 h236), wp_imp (wp_bind hm) (fun t245 hm H246 g247 h248 => ⟨rfl, ?_⟩) (fun _ e => hx225 _ _ _ ⟨rfl, gl223⟩ e)⟩
      have h13 := Imm.mono g247 h13
      have g0 := g0.of0' g247
      have gl223 := gl223.of0' g247
      refine rd_nil ⟨_, _, rfl, h248, wp_imp (wp_bind hm) (fun t249 hm v252 H250 g251 h253 => ?_) (fun _ e => hx225 _ _ _ ⟨rfl, gl223⟩ e)⟩
      have h13 := Imm.mono g251 h13
      have g0 := g0.of0' g251
      have gl223 := gl223.of0' g251
      refine rd_nx ?_
      exact rd_ret (rd_c (hm _ g0))
    obtain ⟨rfl, g254⟩ := hr222
    have h13 := Imm.mono g254 h13
    have g0 := Gr.of0' g0 g254
    exact (show False from hm).elim

theorem all_mk {l : PySem.W.OpenLaw} {w : World} {K : PySem.W.Frag} {h : Heap} {mg : Str → Option Value} {fa f1 f2 f3 f4 f5 f6 f7 f8 f9 f10 f11 f12 f13 f14 f15 f16 f17 f18 f19 f20 f21 f22 f23 f24 f25 f26 f27 f28 f29 f30 f31 f32 f33 f34 f35 f36 f37 f38 f39 f40 f41 f42 f43 f44 : Addr} (X : K.In h) (G : h.Ns mainGlobals mg) (hfa : mg "law" = some (.ref fa))
    {fG0 : Addr} {odG0 anG0 : Option Addr} {slG0 : Array (Option Value)} {ocG0 kVG0 dcG0 pmG0 ctG0 cdG0 : Value}
    {od1 an1 od2 an2 od3 an3 od4 an4 od5 an5 od6 an6 od7 an7 od8 an8 od9 an9 od10 an10 od11 an11 od12 an12 od13 an13 od14 an14 od15 an15 od16 an16 od17 an17 od18 an18 od19 an19 od20 an20 od21 an21 od22 an22 od23 an23 od24 an24 od25 an25 od26 an26 od27 an27 od28 an28 od29 an29 od30 an30 od31 an31 od32 an32 od33 an33 od34 an34 od35 an35 od36 an36 od37 an37 od38 an38 od39 an39 od40 an40 od41 an41 od42 an42 od43 an43 od44 an44 : Option Addr} {sl1 sl2 sl3 sl4 sl5 sl6 sl7 sl8 sl9 sl10 sl11 sl12 sl13 sl14 sl15 sl16 sl17 sl18 sl19 sl20 sl21 sl22 sl23 sl24 sl25 sl26 sl27 sl28 sl29 sl30 sl31 sl32 sl33 sl34 sl35 sl36 sl37 sl38 sl39 sl40 sl41 sl42 sl43 sl44 : Array (Option Value)} {oc1 kV1 dc1 pm1 ct1 cd1 oc2 kV2 dc2 pm2 ct2 cd2 oc3 kV3 dc3 pm3 ct3 cd3 oc4 kV4 dc4 pm4 ct4 cd4 oc5 kV5 dc5 pm5 ct5 cd5 oc6 kV6 dc6 pm6 ct6 cd6 oc7 kV7 dc7 pm7 ct7 cd7 oc8 kV8 dc8 pm8 ct8 cd8 oc9 kV9 dc9 pm9 ct9 cd9 oc10 kV10 dc10 pm10 ct10 cd10 oc11 kV11 dc11 pm11 ct11 cd11 oc12 kV12 dc12 pm12 ct12 cd12 oc13 kV13 dc13 pm13 ct13 cd13 oc14 kV14 dc14 pm14 ct14 cd14 oc15 kV15 dc15 pm15 ct15 cd15 oc16 kV16 dc16 pm16 ct16 oc17 kV17 dc17 pm17 ct17 cd17 oc18 kV18 dc18 pm18 ct18 cd18 oc19 kV19 dc19 pm19 ct19 cd19 oc20 kV20 dc20 pm20 ct20 cd20 oc21 kV21 dc21 pm21 ct21 cd21 oc22 kV22 dc22 pm22 ct22 cd22 oc23 kV23 dc23 pm23 ct23 cd23 oc24 kV24 dc24 pm24 ct24 cd24 oc25 kV25 dc25 pm25 ct25 cd25 oc26 kV26 dc26 pm26 ct26 cd26 oc27 kV27 dc27 pm27 ct27 cd27 oc28 kV28 dc28 pm28 ct28 cd28 oc29 kV29 dc29 pm29 ct29 cd29 oc30 kV30 dc30 pm30 ct30 cd30 oc31 kV31 dc31 pm31 ct31 cd31 oc32 kV32 dc32 pm32 ct32 cd32 oc33 kV33 dc33 pm33 ct33 cd33 oc34 kV34 dc34 pm34 ct34 cd34 oc35 kV35 dc35 pm35 ct35 cd35 oc36 kV36 dc36 pm36 ct36 cd36 oc37 kV37 dc37 pm37 ct37 cd37 oc38 kV38 dc38 pm38 ct38 cd38 oc39 kV39 dc39 pm39 ct39 cd39 oc40 kV40 dc40 pm40 ct40 cd40 oc41 kV41 dc41 pm41 ct41 cd41 oc42 kV42 dc42 pm42 ct42 cd42 oc43 kV43 dc43 pm43 ct43 cd43 oc44 kV44 dc44 pm44 ct44 cd44 : Value}
    {cc16 PT16 : Addr} {tc16 : Value} {td16 : Option Addr} {tv16 : Array Value} {ts16 : Array (Option Value)}
    {TD29 : Addr} {tt29 : Value} {to29 : Option Addr} {tn29 : Nat} {ts29 : Array (Option Value)} {dA_Field___init___0 : Addr}
    {tk_MOST_MEMBERS : Tok}
    {c_fault c_zd c_mal c_refu c_Field c_Poly : Addr}
    (a1 : PySem.W.nsIn K mainGlobals "_law_numbers" = some (some (.ref f1))) (l1 : K.lookup f1 = some ⟨oc1, od1, .func (PySem.W.fnOf "_law_numbers" "_law_numbers" (defArgs s__law_numbers) (defBody s__law_numbers) (defScope s__law_numbers) .none kV1 dc1 pm1 an1 cd1 ct1), sl1⟩) (c1 : PySem.W.codeIn K cd1 "_law_numbers" = true) (k1 : PySem.W.keepIn K (.ref f1) = true)
    (a2 : PySem.W.nsIn K mainGlobals "_law_next" = some (some (.ref f2))) (l2 : K.lookup f2 = some ⟨oc2, od2, .func (PySem.W.fnOf "_law_next" "_law_next" (defArgs s__law_next) (defBody s__law_next) (defScope s__law_next) .none kV2 dc2 pm2 an2 cd2 ct2), sl2⟩) (c2 : PySem.W.codeIn K cd2 "_law_next" = true) (k2 : PySem.W.keepIn K (.ref f2) = true)
    (a3 : PySem.W.nsIn K mainGlobals "_law_member" = some (some (.ref f3))) (l3 : K.lookup f3 = some ⟨oc3, od3, .func (PySem.W.fnOf "_law_member" "_law_member" (defArgs s__law_member) (defBody s__law_member) (defScope s__law_member) .none kV3 dc3 pm3 an3 cd3 ct3), sl3⟩) (c3 : PySem.W.codeIn K cd3 "_law_member" = true) (k3 : PySem.W.keepIn K (.ref f3) = true)
    (a4 : PySem.W.nsIn K mainGlobals "_law_modulus" = some (some (.ref f4))) (l4 : K.lookup f4 = some ⟨oc4, od4, .func (PySem.W.fnOf "_law_modulus" "_law_modulus" (defArgs s__law_modulus) (defBody s__law_modulus) (defScope s__law_modulus) .none kV4 dc4 pm4 an4 cd4 ct4), sl4⟩) (c4 : PySem.W.codeIn K cd4 "_law_modulus" = true) (k4 : PySem.W.keepIn K (.ref f4) = true)
    (a5 : PySem.W.nsIn K mainGlobals "is_integer" = some (some (.ref f5))) (l5 : K.lookup f5 = some ⟨oc5, od5, .func (PySem.W.fnOf "is_integer" "is_integer" (defArgs s_is_integer) (defBody s_is_integer) (defScope s_is_integer) .none kV5 dc5 pm5 an5 cd5 ct5), sl5⟩) (c5 : PySem.W.codeIn K cd5 "is_integer" = true) (k5 : PySem.W.keepIn K (.ref f5) = true)
    (a6 : PySem.W.nsIn K mainGlobals "least_divisor" = some (some (.ref f6))) (l6 : K.lookup f6 = some ⟨oc6, od6, .func (PySem.W.fnOf "least_divisor" "least_divisor" (defArgs s_least_divisor) (defBody s_least_divisor) (defScope s_least_divisor) .none kV6 dc6 pm6 an6 cd6 ct6), sl6⟩) (c6 : PySem.W.codeIn K cd6 "least_divisor" = true) (k6 : PySem.W.keepIn K (.ref f6) = true)
    (a7 : PySem.W.nsIn K mainGlobals "is_prime" = some (some (.ref f7))) (l7 : K.lookup f7 = some ⟨oc7, od7, .func (PySem.W.fnOf "is_prime" "is_prime" (defArgs s_is_prime) (defBody s_is_prime) (defScope s_is_prime) .none kV7 dc7 pm7 an7 cd7 ct7), sl7⟩) (c7 : PySem.W.codeIn K cd7 "is_prime" = true) (k7 : PySem.W.keepIn K (.ref f7) = true)
    (a8 : PySem.W.nsIn K mainGlobals "power_within" = some (some (.ref f8))) (l8 : K.lookup f8 = some ⟨oc8, od8, .func (PySem.W.fnOf "power_within" "power_within" (defArgs s_power_within) (defBody s_power_within) (defScope s_power_within) .none kV8 dc8 pm8 an8 cd8 ct8), sl8⟩) (c8 : PySem.W.codeIn K cd8 "power_within" = true) (k8 : PySem.W.keepIn K (.ref f8) = true)
    (a9 : PySem.W.nsIn K mainGlobals "cofactors" = some (some (.ref f9))) (l9 : K.lookup f9 = some ⟨oc9, od9, .func (PySem.W.fnOf "cofactors" "cofactors" (defArgs s_cofactors) (defBody s_cofactors) (defScope s_cofactors) .none kV9 dc9 pm9 an9 cd9 ct9), sl9⟩) (c9 : PySem.W.codeIn K cd9 "cofactors" = true) (k9 : PySem.W.keepIn K (.ref f9) = true)
    (a10 : PySem.W.nsIn K mainGlobals "inverse_modulo" = some (some (.ref f10))) (l10 : K.lookup f10 = some ⟨oc10, od10, .func (PySem.W.fnOf "inverse_modulo" "inverse_modulo" (defArgs s_inverse_modulo) (defBody s_inverse_modulo) (defScope s_inverse_modulo) .none kV10 dc10 pm10 an10 cd10 ct10), sl10⟩) (c10 : PySem.W.codeIn K cd10 "inverse_modulo" = true) (k10 : PySem.W.keepIn K (.ref f10) = true)
    (a11 : PySem.W.nsIn K mainGlobals "without_end" = some (some (.ref f11))) (l11 : K.lookup f11 = some ⟨oc11, od11, .func (PySem.W.fnOf "without_end" "without_end" (defArgs s_without_end) (defBody s_without_end) (defScope s_without_end) .none kV11 dc11 pm11 an11 cd11 ct11), sl11⟩) (c11 : PySem.W.codeIn K cd11 "without_end" = true) (k11 : PySem.W.keepIn K (.ref f11) = true)
    (a12 : PySem.W.nsIn K mainGlobals "trimmed" = some (some (.ref f12))) (l12 : K.lookup f12 = some ⟨oc12, od12, .func (PySem.W.fnOf "trimmed" "trimmed" (defArgs s_trimmed) (defBody s_trimmed) (defScope s_trimmed) .none kV12 dc12 pm12 an12 cd12 ct12), sl12⟩) (c12 : PySem.W.codeIn K cd12 "trimmed" = true) (k12 : PySem.W.keepIn K (.ref f12) = true)
    (a13 : PySem.W.nsIn K mainGlobals "divide_rows" = some (some (.ref f13))) (l13 : K.lookup f13 = some ⟨oc13, od13, .func (PySem.W.fnOf "divide_rows" "divide_rows" (defArgs s_divide_rows) (defBody s_divide_rows) (defScope s_divide_rows) .none kV13 dc13 pm13 an13 cd13 ct13), sl13⟩) (c13 : PySem.W.codeIn K cd13 "divide_rows" = true) (k13 : PySem.W.keepIn K (.ref f13) = true)
    (a14 : PySem.W.nsIn K mainGlobals "multiply_rows" = some (some (.ref f14))) (l14 : K.lookup f14 = some ⟨oc14, od14, .func (PySem.W.fnOf "multiply_rows" "multiply_rows" (defArgs s_multiply_rows) (defBody s_multiply_rows) (defScope s_multiply_rows) .none kV14 dc14 pm14 an14 cd14 ct14), sl14⟩) (c14 : PySem.W.codeIn K cd14 "multiply_rows" = true) (k14 : PySem.W.keepIn K (.ref f14) = true)
    (a15 : PySem.W.nsIn K mainGlobals "by_squaring" = some (some (.ref f15))) (l15 : K.lookup f15 = some ⟨oc15, od15, .func (PySem.W.fnOf "by_squaring" "by_squaring" (defArgs s_by_squaring) (defBody s_by_squaring) (defScope s_by_squaring) .none kV15 dc15 pm15 an15 cd15 ct15), sl15⟩) (c15 : PySem.W.codeIn K cd15 "by_squaring" = true) (k15 : PySem.W.keepIn K (.ref f15) = true)
    (a16 : PySem.W.nsIn K mainGlobals "power_row" = some (some (.ref f16))) (l16 : K.lookup f16 = some ⟨oc16, od16, .func (PySem.W.fnOf "power_row" "power_row" (defArgs s_power_row) (defBody s_power_row) (defScope s_power_row) .none kV16 dc16 pm16 an16 (.ref cc16) ct16), sl16⟩) (c16 : PySem.W.codeIn K (.ref cc16) "power_row" = true) (k16 : PySem.W.keepIn K (.ref f16) = true)
    (a17 : PySem.W.nsIn K mainGlobals "filled_up" = some (some (.ref f17))) (l17 : K.lookup f17 = some ⟨oc17, od17, .func (PySem.W.fnOf "filled_up" "filled_up" (defArgs s_filled_up) (defBody s_filled_up) (defScope s_filled_up) .none kV17 dc17 pm17 an17 cd17 ct17), sl17⟩) (c17 : PySem.W.codeIn K cd17 "filled_up" = true) (k17 : PySem.W.keepIn K (.ref f17) = true)
    (a18 : PySem.W.nsIn K mainGlobals "add_rows" = some (some (.ref f18))) (l18 : K.lookup f18 = some ⟨oc18, od18, .func (PySem.W.fnOf "add_rows" "add_rows" (defArgs s_add_rows) (defBody s_add_rows) (defScope s_add_rows) .none kV18 dc18 pm18 an18 cd18 ct18), sl18⟩) (c18 : PySem.W.codeIn K cd18 "add_rows" = true) (k18 : PySem.W.keepIn K (.ref f18) = true)
    (a19 : PySem.W.nsIn K mainGlobals "subtract_rows" = some (some (.ref f19))) (l19 : K.lookup f19 = some ⟨oc19, od19, .func (PySem.W.fnOf "subtract_rows" "subtract_rows" (defArgs s_subtract_rows) (defBody s_subtract_rows) (defScope s_subtract_rows) .none kV19 dc19 pm19 an19 cd19 ct19), sl19⟩) (c19 : PySem.W.codeIn K cd19 "subtract_rows" = true) (k19 : PySem.W.keepIn K (.ref f19) = true)
    (a20 : PySem.W.nsIn K mainGlobals "common_row" = some (some (.ref f20))) (l20 : K.lookup f20 = some ⟨oc20, od20, .func (PySem.W.fnOf "common_row" "common_row" (defArgs s_common_row) (defBody s_common_row) (defScope s_common_row) .none kV20 dc20 pm20 an20 cd20 ct20), sl20⟩) (c20 : PySem.W.codeIn K cd20 "common_row" = true) (k20 : PySem.W.keepIn K (.ref f20) = true)
    (a21 : PySem.W.nsIn K mainGlobals "is_irreducible_row" = some (some (.ref f21))) (l21 : K.lookup f21 = some ⟨oc21, od21, .func (PySem.W.fnOf "is_irreducible_row" "is_irreducible_row" (defArgs s_is_irreducible_row) (defBody s_is_irreducible_row) (defScope s_is_irreducible_row) .none kV21 dc21 pm21 an21 cd21 ct21), sl21⟩) (c21 : PySem.W.codeIn K cd21 "is_irreducible_row" = true) (k21 : PySem.W.keepIn K (.ref f21) = true)
    (a22 : PySem.W.nsIn K mainGlobals "check_making" = some (some (.ref f22))) (l22 : K.lookup f22 = some ⟨oc22, od22, .func (PySem.W.fnOf "check_making" "check_making" (defArgs s_check_making) (defBody s_check_making) (defScope s_check_making) .none kV22 dc22 pm22 an22 cd22 ct22), sl22⟩) (c22 : PySem.W.codeIn K cd22 "check_making" = true) (k22 : PySem.W.keepIn K (.ref f22) = true)
    (a23 : PySem.W.nsIn K mainGlobals "digits" = some (some (.ref f23))) (l23 : K.lookup f23 = some ⟨oc23, od23, .func (PySem.W.fnOf "digits" "digits" (defArgs s_digits) (defBody s_digits) (defScope s_digits) .none kV23 dc23 pm23 an23 cd23 ct23), sl23⟩) (c23 : PySem.W.codeIn K cd23 "digits" = true) (k23 : PySem.W.keepIn K (.ref f23) = true)
    (a24 : PySem.W.nsIn K mainGlobals "powers_of" = some (some (.ref f24))) (l24 : K.lookup f24 = some ⟨oc24, od24, .func (PySem.W.fnOf "powers_of" "powers_of" (defArgs s_powers_of) (defBody s_powers_of) (defScope s_powers_of) .none kV24 dc24 pm24 an24 cd24 ct24), sl24⟩) (c24 : PySem.W.codeIn K cd24 "powers_of" = true) (k24 : PySem.W.keepIn K (.ref f24) = true)
    (a25 : PySem.W.nsIn K mainGlobals "primitive_powers" = some (some (.ref f25))) (l25 : K.lookup f25 = some ⟨oc25, od25, .func (PySem.W.fnOf "primitive_powers" "primitive_powers" (defArgs s_primitive_powers) (defBody s_primitive_powers) (defScope s_primitive_powers) .none kV25 dc25 pm25 an25 cd25 ct25), sl25⟩) (c25 : PySem.W.codeIn K cd25 "primitive_powers" = true) (k25 : PySem.W.keepIn K (.ref f25) = true)
    (a26 : PySem.W.nsIn K mainGlobals "written_power" = some (some (.ref f26))) (l26 : K.lookup f26 = some ⟨oc26, od26, .func (PySem.W.fnOf "written_power" "written_power" (defArgs s_written_power) (defBody s_written_power) (defScope s_written_power) .none kV26 dc26 pm26 an26 cd26 ct26), sl26⟩) (c26 : PySem.W.codeIn K cd26 "written_power" = true) (k26 : PySem.W.keepIn K (.ref f26) = true)
    (a27 : PySem.W.nsIn K mainGlobals "written_term" = some (some (.ref f27))) (l27 : K.lookup f27 = some ⟨oc27, od27, .func (PySem.W.fnOf "written_term" "written_term" (defArgs s_written_term) (defBody s_written_term) (defScope s_written_term) .none kV27 dc27 pm27 an27 cd27 ct27), sl27⟩) (c27 : PySem.W.codeIn K cd27 "written_term" = true) (k27 : PySem.W.keepIn K (.ref f27) = true)
    (a28 : PySem.W.findIn K (.ref c_Field) "written" = some (some (.ref f28))) (i28 : PySem.W.isFn K (.ref f28) = true)
    (l28 : K.lookup f28 = some ⟨oc28, od28, .func (PySem.W.fnOf "written" "Field.written" (defArgs s_Field_written) (defBody s_Field_written) (defScope s_Field_written) .none kV28 dc28 pm28 an28 cd28 ct28), sl28⟩) (c28 : PySem.W.codeIn K cd28 "Field.written" = true) (k28 : PySem.W.keepIn K (.ref f28) = true)
    (a29 : PySem.W.findIn K (.ref c_Field) "__init__" = some (some (.ref f29))) (i29 : PySem.W.isFn K (.ref f29) = true)
    (l29 : K.lookup f29 = some ⟨oc29, od29, .func (PySem.W.fnOf "__init__" "Field.__init__" (defArgs s_Field___init__) (defBody s_Field___init__) (defScope s_Field___init__) (.ref TD29) kV29 dc29 pm29 an29 cd29 ct29), sl29⟩) (c29 : PySem.W.codeIn K cd29 "Field.__init__" = true) (k29 : PySem.W.keepIn K (.ref f29) = true)
    (d29 : K.lookup TD29 = some ⟨tt29, to29, .seq #[(.ref dA_Field___init___0)] tn29, ts29⟩)
    (a30 : PySem.W.nsIn K mainGlobals "_law_field" = some (some (.ref f30))) (l30 : K.lookup f30 = some ⟨oc30, od30, .func (PySem.W.fnOf "_law_field" "_law_field" (defArgs s__law_field) (defBody s__law_field) (defScope s__law_field) .none kV30 dc30 pm30 an30 cd30 ct30), sl30⟩) (c30 : PySem.W.codeIn K cd30 "_law_field" = true) (k30 : PySem.W.keepIn K (.ref f30) = true)
    (a31 : PySem.W.nsIn K mainGlobals "_law_zero" = some (some (.ref f31))) (l31 : K.lookup f31 = some ⟨oc31, od31, .func (PySem.W.fnOf "_law_zero" "_law_zero" (defArgs s__law_zero) (defBody s__law_zero) (defScope s__law_zero) .none kV31 dc31 pm31 an31 cd31 ct31), sl31⟩) (c31 : PySem.W.codeIn K cd31 "_law_zero" = true) (k31 : PySem.W.keepIn K (.ref f31) = true)
    (a32 : PySem.W.nsIn K mainGlobals "_law_one" = some (some (.ref f32))) (l32 : K.lookup f32 = some ⟨oc32, od32, .func (PySem.W.fnOf "_law_one" "_law_one" (defArgs s__law_one) (defBody s__law_one) (defScope s__law_one) .none kV32 dc32 pm32 an32 cd32 ct32), sl32⟩) (c32 : PySem.W.codeIn K cd32 "_law_one" = true) (k32 : PySem.W.keepIn K (.ref f32) = true)
    (a33 : PySem.W.nsIn K mainGlobals "_law_times" = some (some (.ref f33))) (l33 : K.lookup f33 = some ⟨oc33, od33, .func (PySem.W.fnOf "_law_times" "_law_times" (defArgs s__law_times) (defBody s__law_times) (defScope s__law_times) .none kV33 dc33 pm33 an33 cd33 ct33), sl33⟩) (c33 : PySem.W.codeIn K cd33 "_law_times" = true) (k33 : PySem.W.keepIn K (.ref f33) = true)
    (a34 : PySem.W.nsIn K mainGlobals "_law_add" = some (some (.ref f34))) (l34 : K.lookup f34 = some ⟨oc34, od34, .func (PySem.W.fnOf "_law_add" "_law_add" (defArgs s__law_add) (defBody s__law_add) (defScope s__law_add) .none kV34 dc34 pm34 an34 cd34 ct34), sl34⟩) (c34 : PySem.W.codeIn K cd34 "_law_add" = true) (k34 : PySem.W.keepIn K (.ref f34) = true)
    (a35 : PySem.W.nsIn K mainGlobals "_law_value" = some (some (.ref f35))) (l35 : K.lookup f35 = some ⟨oc35, od35, .func (PySem.W.fnOf "_law_value" "_law_value" (defArgs s__law_value) (defBody s__law_value) (defScope s__law_value) .none kV35 dc35 pm35 an35 cd35 ct35), sl35⟩) (c35 : PySem.W.codeIn K cd35 "_law_value" = true) (k35 : PySem.W.keepIn K (.ref f35) = true)
    (a36 : PySem.W.findIn K (.ref c_Field) "is_member" = some (some (.ref f36))) (i36 : PySem.W.isFn K (.ref f36) = true)
    (l36 : K.lookup f36 = some ⟨oc36, od36, .func (PySem.W.fnOf "is_member" "Field.is_member" (defArgs s_Field_is_member) (defBody s_Field_is_member) (defScope s_Field_is_member) .none kV36 dc36 pm36 an36 cd36 ct36), sl36⟩) (c36 : PySem.W.codeIn K cd36 "Field.is_member" = true) (k36 : PySem.W.keepIn K (.ref f36) = true)
    (a37 : PySem.W.findIn K (.ref c_Field) "zero" = some (some (.ref f37))) (i37 : PySem.W.isFn K (.ref f37) = true)
    (l37 : K.lookup f37 = some ⟨oc37, od37, .func (PySem.W.fnOf "zero" "Field.zero" (defArgs s_Field_zero) (defBody s_Field_zero) (defScope s_Field_zero) .none kV37 dc37 pm37 an37 cd37 ct37), sl37⟩) (c37 : PySem.W.codeIn K cd37 "Field.zero" = true) (k37 : PySem.W.keepIn K (.ref f37) = true)
    (a38 : PySem.W.findIn K (.ref c_Poly) "__init__" = some (some (.ref f38))) (i38 : PySem.W.isFn K (.ref f38) = true)
    (l38 : K.lookup f38 = some ⟨oc38, od38, .func (PySem.W.fnOf "__init__" "Poly.__init__" (defArgs s_Poly___init__) (defBody s_Poly___init__) (defScope s_Poly___init__) .none kV38 dc38 pm38 an38 cd38 ct38), sl38⟩) (c38 : PySem.W.codeIn K cd38 "Poly.__init__" = true) (k38 : PySem.W.keepIn K (.ref f38) = true)
    (a39 : PySem.W.findIn K (.ref c_Poly) "is_zero" = some (some (.ref f39))) (i39 : PySem.W.isFn K (.ref f39) = true)
    (l39 : K.lookup f39 = some ⟨oc39, od39, .func (PySem.W.fnOf "is_zero" "Poly.is_zero" (defArgs s_Poly_is_zero) (defBody s_Poly_is_zero) (defScope s_Poly_is_zero) .none kV39 dc39 pm39 an39 cd39 ct39), sl39⟩) (c39 : PySem.W.codeIn K cd39 "Poly.is_zero" = true) (k39 : PySem.W.keepIn K (.ref f39) = true)
    (a40 : PySem.W.findIn K (.ref c_Field) "multiply" = some (some (.ref f40))) (i40 : PySem.W.isFn K (.ref f40) = true)
    (l40 : K.lookup f40 = some ⟨oc40, od40, .func (PySem.W.fnOf "multiply" "Field.multiply" (defArgs s_Field_multiply) (defBody s_Field_multiply) (defScope s_Field_multiply) .none kV40 dc40 pm40 an40 cd40 ct40), sl40⟩) (c40 : PySem.W.codeIn K cd40 "Field.multiply" = true) (k40 : PySem.W.keepIn K (.ref f40) = true)
    (a41 : PySem.W.findIn K (.ref c_Field) "add" = some (some (.ref f41))) (i41 : PySem.W.isFn K (.ref f41) = true)
    (l41 : K.lookup f41 = some ⟨oc41, od41, .func (PySem.W.fnOf "add" "Field.add" (defArgs s_Field_add) (defBody s_Field_add) (defScope s_Field_add) .none kV41 dc41 pm41 an41 cd41 ct41), sl41⟩) (c41 : PySem.W.codeIn K cd41 "Field.add" = true) (k41 : PySem.W.keepIn K (.ref f41) = true)
    (a42 : PySem.W.findIn K (.ref c_Poly) "__call__" = some (some (.ref f42))) (i42 : PySem.W.isFn K (.ref f42) = true)
    (l42 : K.lookup f42 = some ⟨oc42, od42, .func (PySem.W.fnOf "__call__" "Poly.__call__" (defArgs s_Poly___call__) (defBody s_Poly___call__) (defScope s_Poly___call__) .none kV42 dc42 pm42 an42 cd42 ct42), sl42⟩) (c42 : PySem.W.codeIn K cd42 "Poly.__call__" = true) (k42 : PySem.W.keepIn K (.ref f42) = true)
    (a43 : PySem.W.nsIn K mainGlobals "roots" = some (some (.ref f43))) (l43 : K.lookup f43 = some ⟨oc43, od43, .func (PySem.W.fnOf "roots" "roots" (defArgs s_roots) (defBody s_roots) (defScope s_roots) .none kV43 dc43 pm43 an43 cd43 ct43), sl43⟩) (c43 : PySem.W.codeIn K cd43 "roots" = true) (k43 : PySem.W.keepIn K (.ref f43) = true)
    (a44 : PySem.W.nsIn K mainGlobals "law" = some (some (.ref f44))) (l44 : K.lookup f44 = some ⟨oc44, od44, .func (PySem.W.fnOf "law" "law" (defArgs s_law) (defBody s_law) (defScope s_law) .none kV44 dc44 pm44 an44 cd44 ct44), sl44⟩) (c44 : PySem.W.codeIn K cd44 "law" = true) (k44 : PySem.W.keepIn K (.ref f44) = true)
    (z_len : PySem.W.nsIn K mainGlobals "len" = some none)
    (z_min : PySem.W.nsIn K mainGlobals "min" = some none)
    (z_range : PySem.W.nsIn K mainGlobals "range" = some none)
    (z_abs : PySem.W.nsIn K mainGlobals "abs" = some none)
    (z_tuple : PySem.W.nsIn K mainGlobals "tuple" = some none)
    (z_sum : PySem.W.nsIn K mainGlobals "sum" = some none)
    (z_isinstance : PySem.W.nsIn K mainGlobals "isinstance" = some none)
    (z_int : PySem.W.nsIn K mainGlobals "int" = some none)
    (z_bool : PySem.W.nsIn K mainGlobals "bool" = some none)
    (z_list : PySem.W.nsIn K mainGlobals "list" = some none)
    (z_reversed : PySem.W.nsIn K mainGlobals "reversed" = some none)
    (z_enumerate : PySem.W.nsIn K mainGlobals "enumerate" = some none)
    (z_max : PySem.W.nsIn K mainGlobals "max" = some none)
    (z_zip : PySem.W.nsIn K mainGlobals "zip" = some none)
    (z_all : PySem.W.nsIn K mainGlobals "all" = some none)
    (aG0 : PySem.W.findIn K (.ref c_Field) "members" = some (some (.ref fG0))) (iG0 : PySem.W.isFn K (.ref fG0) = true) (lG0 : K.lookup fG0 = some ⟨ocG0, odG0, .func (PySem.W.fnOf "members" "Field.members" (defArgs (inClass (topS 28) 17)) (defBody (inClass (topS 28) 17)) (defScope (inClass (topS 28) 17)) .none kVG0 dcG0 pmG0 anG0 cdG0 ctG0), slG0⟩) (cG0 : PySem.W.codeIn K cdG0 "Field.members" = true) (kG0 : PySem.W.keepIn K (.ref fG0) = true)
    (gn_fault : PySem.W.nsIn K mainGlobals "Fault" = some (some (.ref c_fault)))
    (gn_zd : PySem.W.nsIn K mainGlobals "ZeroDivisor" = some (some (.ref c_zd)))
    (gn_mal : PySem.W.nsIn K mainGlobals "Malformed" = some (some (.ref c_mal)))
    (gn_refu : PySem.W.nsIn K mainGlobals "Refused" = some (some (.ref c_refu)))
    (gn_Field : PySem.W.nsIn K mainGlobals "Field" = some (some (.ref c_Field)))
    (mk_Field : PySem.W.makesIn K c_Field = true)
    (kp_Field : PySem.W.keepIn K (.ref c_Field) = true)
    (gn_Poly : PySem.W.nsIn K mainGlobals "Poly" = some (some (.ref c_Poly)))
    (mk_Poly : PySem.W.makesIn K c_Poly = true)
    (kp_Poly : PySem.W.keepIn K (.ref c_Poly) = true)
    (xx_zd : PySem.W.excIn K c_zd [.type "ValueError", .type "Exception", .type "BaseException", .type "object"] "ValueError.__new__" = true)
    (xk_zd : PySem.W.keepIn K (.ref c_zd) = true)
    (xb_zd : PySem.W.subIn K (.ref c_zd) (.type "BaseException") = some true)
    (xt_zd : PySem.W.typeIn K (.ref c_zd) = some (.type "type"))
    (xx_mal : PySem.W.excIn K c_mal [.type "ValueError", .type "Exception", .type "BaseException", .type "object"] "ValueError.__new__" = true)
    (xk_mal : PySem.W.keepIn K (.ref c_mal) = true)
    (xb_mal : PySem.W.subIn K (.ref c_mal) (.type "BaseException") = some true)
    (xt_mal : PySem.W.typeIn K (.ref c_mal) = some (.type "type"))
    (gg_MOST_MEMBERS : PySem.W.nsIn K mainGlobals "MOST_MEMBERS" = some (some (.int 400 tk_MOST_MEMBERS)))
    (pg_Field : PySem.W.plainGet K c_Field PySem.Str.empty = true)
    (hd_Field : PySem.W.hasDictIn K c_Field = true)
    (po_Field : PySem.W.plainOver K c_Field = true)
    (sa_Field : PySem.W.findIn K (.ref c_Field) "__setattr__" = some (some (.builtin "object.__setattr__")))
    (na_Field_n : PySem.W.findIn K (.ref c_Field) "n" = some none)
    (na_Field_p : PySem.W.findIn K (.ref c_Field) "p" = some none)
    (na_Field_modulus : PySem.W.findIn K (.ref c_Field) "modulus" = some none)
    (na_Field_q : PySem.W.findIn K (.ref c_Field) "q" = some none)
    (na_Field__members : PySem.W.findIn K (.ref c_Field) "_members" = some none)
    (na_Field__powers : PySem.W.findIn K (.ref c_Field) "_powers" = some none)
    (na_Field__logarithms : PySem.W.findIn K (.ref c_Field) "_logarithms" = some none)
    (na_Field__texts : PySem.W.findIn K (.ref c_Field) "_texts" = some none)
    (pg_Poly : PySem.W.plainGet K c_Poly PySem.Str.empty = true)
    (hd_Poly : PySem.W.hasDictIn K c_Poly = true)
    (po_Poly : PySem.W.plainOver K c_Poly = true)
    (sa_Poly : PySem.W.findIn K (.ref c_Poly) "__setattr__" = some (some (.builtin "object.__setattr__")))
    (na_Poly_field : PySem.W.findIn K (.ref c_Poly) "field" = some none)
    (na_Poly_row : PySem.W.findIn K (.ref c_Poly) "row" = some none)
    (ed_zd : PySem.W.hasDictIn K c_zd = true)
    (ss_zd_zd : PySem.W.subIn K (.ref c_zd) (.ref c_zd) = some true)
    (q16 : K.lookup cc16 = some ⟨tc16, td16, .fields tv16, ts16⟩) (p16 : tv16[11]? = some (.ref PT16)) (h16 : PySem.W.codeHdIn K cc16 PT16 = true) (u16 : K.lookup PT16 = none) (v16 : h.get? PT16 = some { cls := .none, data := .fields #[] })
    (hmath : ∀ ns : List Int, ns.length ≤ 63 → m_law ns = R.ok true)
    : LamX.LawAtS l w K CX0 12 63 "script" mg fa h := by
  have e := hfa.symm.trans (PySem.W.mg_of X G a44)
  cases e
  have F1 := fun_mk (st := s__law_numbers) l1 c1 k1
  have b1 := F1.binds (ps := ["script"]) fun _ _ _ _ _ _ us hl => match us, hl with | [_], _ => rfl
  have F2 := fun_mk (st := s__law_next) l2 c2 k2
  have b2 := F2.binds (ps := ["numbers", "many"]) fun _ _ _ _ _ _ us hl => match us, hl with | [_, _], _ => rfl
  have F3 := fun_mk (st := s__law_member) l3 c3 k3
  have b3 := F3.binds (ps := ["p", "n", "number"]) fun _ _ _ _ _ _ us hl => match us, hl with | [_, _, _], _ => rfl
  have F4 := fun_mk (st := s__law_modulus) l4 c4 k4
  have b4 := F4.binds (ps := ["p", "n", "number"]) fun _ _ _ _ _ _ us hl => match us, hl with | [_, _, _], _ => rfl
  have F5 := fun_mk (st := s_is_integer) l5 c5 k5
  have b5 := F5.binds (ps := ["value"]) fun _ _ _ _ _ _ us hl => match us, hl with | [_], _ => rfl
  have F6 := fun_mk (st := s_least_divisor) l6 c6 k6
  have b6 := F6.binds (ps := ["n", "start"]) fun _ _ _ _ _ _ us hl => match us, hl with | [_, _], _ => rfl
  have F7 := fun_mk (st := s_is_prime) l7 c7 k7
  have b7 := F7.binds (ps := ["n"]) fun _ _ _ _ _ _ us hl => match us, hl with | [_], _ => rfl
  have F8 := fun_mk (st := s_power_within) l8 c8 k8
  have b8 := F8.binds (ps := ["a", "k", "limit"]) fun _ _ _ _ _ _ us hl => match us, hl with | [_, _, _], _ => rfl
  have F9 := fun_mk (st := s_cofactors) l9 c9 k9
  have b9 := F9.binds (ps := ["a", "b"]) fun _ _ _ _ _ _ us hl => match us, hl with | [_, _], _ => rfl
  have F10 := fun_mk (st := s_inverse_modulo) l10 c10 k10
  have b10 := F10.binds (ps := ["a", "m"]) fun _ _ _ _ _ _ us hl => match us, hl with | [_, _], _ => rfl
  have F11 := fun_mk (st := s_without_end) l11 c11 k11
  have b11 := F11.binds (ps := ["items", "zero"]) fun _ _ _ _ _ _ us hl => match us, hl with | [_, _], _ => rfl
  have F12 := fun_mk (st := s_trimmed) l12 c12 k12
  have b12 := F12.binds (ps := ["row", "p"]) fun _ _ _ _ _ _ us hl => match us, hl with | [_, _], _ => rfl
  have F13 := fun_mk (st := s_divide_rows) l13 c13 k13
  have b13 := F13.binds (ps := ["a", "b", "p"]) fun _ _ _ _ _ _ us hl => match us, hl with | [_, _, _], _ => rfl
  have F14 := fun_mk (st := s_multiply_rows) l14 c14 k14
  have b14 := F14.binds (ps := ["a", "b", "p"]) fun _ _ _ _ _ _ us hl => match us, hl with | [_, _, _], _ => rfl
  have F15 := fun_mk (st := s_by_squaring) l15 c15 k15
  have b15 := F15.binds (ps := ["one", "base", "k", "product"]) fun _ _ _ _ _ _ us hl => match us, hl with | [_, _, _, _], _ => rfl
  have F16 := fun_mk (st := s_power_row) l16 c16 k16
  have b16 := F16.binds (ps := ["a", "k", "m", "p"]) fun _ _ _ _ _ _ us hl => match us, hl with | [_, _, _, _], _ => rfl
  have F17 := fun_mk (st := s_filled_up) l17 c17 k17
  have b17 := F17.binds (ps := ["items", "length", "zero"]) fun _ _ _ _ _ _ us hl => match us, hl with | [_, _, _], _ => rfl
  have F18 := fun_mk (st := s_add_rows) l18 c18 k18
  have b18 := F18.binds (ps := ["a", "b", "p"]) fun _ _ _ _ _ _ us hl => match us, hl with | [_, _, _], _ => rfl
  have F19 := fun_mk (st := s_subtract_rows) l19 c19 k19
  have b19 := F19.binds (ps := ["a", "b", "p"]) fun _ _ _ _ _ _ us hl => match us, hl with | [_, _, _], _ => rfl
  have F20 := fun_mk (st := s_common_row) l20 c20 k20
  have b20 := F20.binds (ps := ["a", "b", "p"]) fun _ _ _ _ _ _ us hl => match us, hl with | [_, _, _], _ => rfl
  have F21 := fun_mk (st := s_is_irreducible_row) l21 c21 k21
  have b21 := F21.binds (ps := ["m", "p"]) fun _ _ _ _ _ _ us hl => match us, hl with | [_, _], _ => rfl
  have F22 := fun_mk (st := s_check_making) l22 c22 k22
  have b22 := F22.binds (ps := ["p", "modulus"]) fun _ _ _ _ _ _ us hl => match us, hl with | [_, _], _ => rfl
  have F23 := fun_mk (st := s_digits) l23 c23 k23
  have b23 := F23.binds (ps := ["number", "base", "count"]) fun _ _ _ _ _ _ us hl => match us, hl with | [_, _, _], _ => rfl
  have F24 := fun_mk (st := s_powers_of) l24 c24 k24
  have b24 := F24.binds (ps := ["a", "p", "modulus"]) fun _ _ _ _ _ _ us hl => match us, hl with | [_, _, _], _ => rfl
  have F25 := fun_mk (st := s_primitive_powers) l25 c25 k25
  have b25 := F25.binds (ps := ["members", "p", "modulus"]) fun _ _ _ _ _ _ us hl => match us, hl with | [_, _, _], _ => rfl
  have F26 := fun_mk (st := s_written_power) l26 c26 k26
  have b26 := F26.binds (ps := ["name", "k"]) fun _ _ _ _ _ _ us hl => match us, hl with | [_, _], _ => rfl
  have F27 := fun_mk (st := s_written_term) l27 c27 k27
  have b27 := F27.binds (ps := ["coefficient", "k"]) fun _ _ _ _ _ _ us hl => match us, hl with | [_, _], _ => rfl
  have F28 := fun_mk (st := s_Field_written) l28 c28 k28
  have b28 := F28.binds (ps := ["self", "a"]) fun _ _ _ _ _ _ us hl => match us, hl with | [_, _], _ => rfl
  have F29 : L2.FunD K "__init__" "Field.__init__" (defArgs s_Field___init__) (defBody s_Field___init__) (defScope s_Field___init__) [(.ref dA_Field___init___0)] [] f29 _ := ⟨⟨_, _, _, _, _, _, _, _, _, _, rfl, l29, c29, .inr ⟨by simp, _, _, [(.ref dA_Field___init___0)], _, rfl, d29, rfl, (.cons rfl .nil)⟩, .inl rfl⟩, k29⟩
  have b29 := FunD.all F29 (ps := ["self", "p", "modulus"]) (by simp) fun _ _ _ _ _ _ _ us its hl hi => match us, its, hl, hi with | [_, _, _], [_], _, _ => ⟨_, rfl, rfl⟩
  have F30 := fun_mk (st := s__law_field) l30 c30 k30
  have b30 := F30.binds (ps := ["numbers", "most"]) fun _ _ _ _ _ _ us hl => match us, hl with | [_, _], _ => rfl
  have F31 := fun_mk (st := s__law_zero) l31 c31 k31
  have b31 := F31.binds (ps := ["field"]) fun _ _ _ _ _ _ us hl => match us, hl with | [_], _ => rfl
  have F32 := fun_mk (st := s__law_one) l32 c32 k32
  have b32 := F32.binds (ps := ["field"]) fun _ _ _ _ _ _ us hl => match us, hl with | [_], _ => rfl
  have F33 := fun_mk (st := s__law_times) l33 c33 k33
  have b33 := F33.binds (ps := ["field", "a", "b"]) fun _ _ _ _ _ _ us hl => match us, hl with | [_, _, _], _ => rfl
  have F34 := fun_mk (st := s__law_add) l34 c34 k34
  have b34 := F34.binds (ps := ["field", "a", "b"]) fun _ _ _ _ _ _ us hl => match us, hl with | [_, _, _], _ => rfl
  have F35 := fun_mk (st := s__law_value) l35 c35 k35
  have b35 := F35.binds (ps := ["field", "row", "a"]) fun _ _ _ _ _ _ us hl => match us, hl with | [_, _, _], _ => rfl
  have F36 := fun_mk (st := s_Field_is_member) l36 c36 k36
  have b36 := F36.binds (ps := ["self", "value"]) fun _ _ _ _ _ _ us hl => match us, hl with | [_, _], _ => rfl
  have F37 := fun_mk (st := s_Field_zero) l37 c37 k37
  have b37 := F37.binds (ps := ["self"]) fun _ _ _ _ _ _ us hl => match us, hl with | [_], _ => rfl
  have F38 := fun_mk (st := s_Poly___init__) l38 c38 k38
  have b38 := F38.binds (ps := ["self", "field", "row"]) fun _ _ _ _ _ _ us hl => match us, hl with | [_, _, _], _ => rfl
  have F39 := fun_mk (st := s_Poly_is_zero) l39 c39 k39
  have b39 := F39.binds (ps := ["self"]) fun _ _ _ _ _ _ us hl => match us, hl with | [_], _ => rfl
  have F40 := fun_mk (st := s_Field_multiply) l40 c40 k40
  have b40 := F40.binds (ps := ["self", "a", "b"]) fun _ _ _ _ _ _ us hl => match us, hl with | [_, _, _], _ => rfl
  have F41 := fun_mk (st := s_Field_add) l41 c41 k41
  have b41 := F41.binds (ps := ["self", "a", "b"]) fun _ _ _ _ _ _ us hl => match us, hl with | [_, _, _], _ => rfl
  have F42 := fun_mk (st := s_Poly___call__) l42 c42 k42
  have b42 := F42.binds (ps := ["self", "a"]) fun _ _ _ _ _ _ us hl => match us, hl with | [_, _], _ => rfl
  have F43 := fun_mk (st := s_roots) l43 c43 k43
  have b43 := F43.binds (ps := ["f"]) fun _ _ _ _ _ _ us hl => match us, hl with | [_], _ => rfl
  have F44 := fun_mk (st := s_law) l44 c44 k44
  have b44 := F44.binds (ps := ["script"]) fun _ _ _ _ _ _ us hl => match us, hl with | [_], _ => rfl
  have z_len := PySem.W.mg_none_of X G z_len
  have z_min := PySem.W.mg_none_of X G z_min
  have z_range := PySem.W.mg_none_of X G z_range
  have z_abs := PySem.W.mg_none_of X G z_abs
  have z_tuple := PySem.W.mg_none_of X G z_tuple
  have z_sum := PySem.W.mg_none_of X G z_sum
  have z_isinstance := PySem.W.mg_none_of X G z_isinstance
  have z_int := PySem.W.mg_none_of X G z_int
  have z_bool := PySem.W.mg_none_of X G z_bool
  have z_list := PySem.W.mg_none_of X G z_list
  have z_reversed := PySem.W.mg_none_of X G z_reversed
  have z_enumerate := PySem.W.mg_none_of X G z_enumerate
  have z_max := PySem.W.mg_none_of X G z_max
  have z_zip := PySem.W.mg_none_of X G z_zip
  have z_all := PySem.W.mg_none_of X G z_all
  have T16 := funT_mk (st := s_power_row) (PT := PT16) l16 c16
  refine ⟨PySem.W.fnOf "law" "law" (defArgs s_law) (defBody s_law) (defScope s_law) .none kV44 dc44 pm44 an44 cd44 ct44, [(cc16, PT16)], sp_law K [PT16], (List.forall_mem_cons.mpr ⟨v16, (fun _ z => nomatch z)⟩), (List.forall_mem_cons.mpr ⟨u16, (fun _ z => nomatch z)⟩), (List.forall_mem_cons.mpr ⟨PySem.W.codeHd_of_K X h16, (fun _ z => nomatch z)⟩), fun s v => .of_eq rfl, fun H a ns hl _ hH hS => ⟨ns, a, rfl, ⟨_, hS, Mir.of_ints⟩, (List.forall_mem_cons.mpr ⟨NdefX.TabN.nil (hH (cc16, PT16) (by simp)), (fun _ z => nomatch z)⟩), by rw [hmath ns hl]; exact fun _ _ => rfl⟩, fun base _ _ TBs => ?_⟩
  have TB16 := TBs (cc16, PT16) (by simp)
  generalize hTT : [PT16] = TT
  have hP16 : PT16 ∈ TT := by rw [← hTT]; simp
  have Xk_zd : Xk K mg "ZeroDivisor" c_zd := ⟨PySem.W.mg_of X G gn_zd, xx_zd, xk_zd, xb_zd, xt_zd⟩
  have Xk_mal : Xk K mg "Malformed" c_mal := ⟨PySem.W.mg_of X G gn_mal, xx_mal, xk_mal, xb_mal, xt_mal⟩
  have gk_MOST_MEMBERS := PySem.W.mg_of X G gg_MOST_MEMBERS
  have kl_Field := (⟨pg_Field, hd_Field, po_Field, sa_Field⟩ : Cls K c_Field)
  have kl_Poly := (⟨pg_Poly, hd_Poly, po_Poly, sa_Poly⟩ : Cls K c_Poly)
  have gd_Field_members : GenS.GDef K c_Field "members" "_members" := ⟨⟨"Field.members", "self", inClass (topS 28) 17, fG0, _, _, _, _, _, fun_mk lG0 cG0 kG0, ⟨aG0, iG0, kG0⟩, (fun_mk lG0 cG0 kG0).binds (fun _ _ _ _ _ _ us hl => match us, hl with | [_], _ => rfl), rfl, rfl, rfl, rfl, rfl, by decide, na_Field__members⟩⟩
  have kc_zd_zd := kc_of xb_zd ed_zd xt_zd ss_zd_zd
  have em_zd_zd := PySem.W.exm_ref xb_zd ed_zd xt_zd ss_zd_zd
  have gc_zd := PySem.W.mg_of X G gn_zd
  have C__law_numbers : Cal l.prog w K mg base CX0 1 "_law_numbers" ["script"] (sp__law_numbers K) := ⟨f1, _, ok__law_numbers F1 z_len z_min z_range z_abs, PySem.W.mg_of X G a1, k1, b1⟩
  have C__law_next : Cal l.prog w K mg base CX0 1 "_law_next" ["numbers", "many"] (sp__law_next K) := ⟨f2, _, ok__law_next F2 z_len, PySem.W.mg_of X G a2, k2, b2⟩
  have C__law_member : Cal l.prog w K mg base CX0 1 "_law_member" ["p", "n", "number"] (sp__law_member K) := ⟨f3, _, ok__law_member F3 z_range z_tuple, PySem.W.mg_of X G a3, k3, b3⟩
  have C__law_modulus : Cal l.prog w K mg base CX0 2 "_law_modulus" ["p", "n", "number"] (sp__law_modulus K) := ⟨f4, _, ok__law_modulus F4 z_range z_sum C__law_member, PySem.W.mg_of X G a4, k4, b4⟩
  have C_is_integer : Cal l.prog w K mg base CX0 1 "is_integer" ["value"] (sp_is_integer K) := ⟨f5, _, ok_is_integer F5 z_isinstance z_int z_bool, PySem.W.mg_of X G a5, k5, b5⟩
  have C_least_divisor : Cal l.prog w K mg base CX0 1 "least_divisor" ["n", "start"] (sp_least_divisor K) := ⟨f6, _, ok_least_divisor F6 , PySem.W.mg_of X G a6, k6, b6⟩
  have C_is_prime : Cal l.prog w K mg base CX0 2 "is_prime" ["n"] (sp_is_prime K) := ⟨f7, _, ok_is_prime F7 C_least_divisor, PySem.W.mg_of X G a7, k7, b7⟩
  have C_power_within : Cal l.prog w K mg base CX0 1 "power_within" ["a", "k", "limit"] (sp_power_within K) := ⟨f8, _, ok_power_within F8 z_range, PySem.W.mg_of X G a8, k8, b8⟩
  have C_cofactors : Cal l.prog w K mg base CX0 1 "cofactors" ["a", "b"] (sp_cofactors K) := ⟨f9, _, ok_cofactors F9 , PySem.W.mg_of X G a9, k9, b9⟩
  have C_inverse_modulo : Cal l.prog w K mg base (CX l.prog w) 2 "inverse_modulo" ["a", "m"] (sp_inverse_modulo K (⟨some c_fault, some c_zd, some c_mal, some c_refu, none⟩ : Xc)) := ⟨f10, _, ok_inverse_modulo F10 Xk_zd C_cofactors, PySem.W.mg_of X G a10, k10, b10⟩
  have C_without_end : Cal l.prog w K mg base CX0 1 "without_end" ["items", "zero"] (sp_without_end K) := ⟨f11, _, ok_without_end F11 z_len z_tuple, PySem.W.mg_of X G a11, k11, b11⟩
  have C_trimmed : Cal l.prog w K mg base CX0 2 "trimmed" ["row", "p"] (sp_trimmed K) := ⟨f12, _, ok_trimmed F12 C_without_end, PySem.W.mg_of X G a12, k12, b12⟩
  have C_divide_rows : Cal l.prog w K mg base (CX l.prog w) 3 "divide_rows" ["a", "b", "p"] (sp_divide_rows K (⟨some c_fault, some c_zd, some c_mal, some c_refu, none⟩ : Xc)) := ⟨f13, _, ok_divide_rows F13 z_list z_len z_reversed z_range z_enumerate Xk_zd C_inverse_modulo C_trimmed, PySem.W.mg_of X G a13, k13, b13⟩
  have C_multiply_rows : Cal l.prog w K mg base CX0 3 "multiply_rows" ["a", "b", "p"] (sp_multiply_rows K) := ⟨f14, _, ok_multiply_rows F14 z_len z_enumerate C_trimmed, PySem.W.mg_of X G a14, k14, b14⟩
  have O_lam1 : LOk l.prog w K mg base (CX l.prog w) 4 lw_lam1 ["x", "y"] ["m", "p"] (spl_lam1 K (⟨some c_fault, some c_zd, some c_mal, some c_refu, none⟩ : Xc)) := okl_lam1 C_multiply_rows C_divide_rows
  have C_by_squaring : CalC l.prog w K mg base (CX l.prog w) 5 "by_squaring" ["one", "base", "k", "product"] lw_lam1 ["m", "p"] (sp_by_squaring K (⟨some c_fault, some c_zd, some c_mal, some c_refu, none⟩ : Xc)) := ⟨f15, _, ok_by_squaring F15 O_lam1, PySem.W.mg_of X G a15, k15, b15⟩
  have C_power_row : Cal l.prog w K mg base (CX l.prog w) 6 "power_row" ["a", "k", "m", "p"] (sp_power_row K (⟨some c_fault, some c_zd, some c_mal, some c_refu, none⟩ : Xc) TT) := ⟨f16, _, ok_power_row T16 TB16 hP16 C_divide_rows C_by_squaring, PySem.W.mg_of X G a16, k16, b16⟩
  have C_filled_up : Cal l.prog w K mg base CX0 1 "filled_up" ["items", "length", "zero"] (sp_filled_up K) := ⟨f17, _, ok_filled_up F17 z_tuple z_len, PySem.W.mg_of X G a17, k17, b17⟩
  have C_filled_up_2 : Cal l.prog w K mg base CX0 1 "filled_up" ["items", "length", "zero"] (sp_filled_up_2 K) := ⟨f17, _, ok_filled_up_2 F17 z_tuple z_len, PySem.W.mg_of X G a17, k17, b17⟩
  have C_add_rows : Cal l.prog w K mg base CX0 3 "add_rows" ["a", "b", "p"] (sp_add_rows K) := ⟨f18, _, ok_add_rows F18 z_len z_max z_zip C_filled_up C_filled_up_2 C_trimmed, PySem.W.mg_of X G a18, k18, b18⟩
  have C_subtract_rows : Cal l.prog w K mg base CX0 4 "subtract_rows" ["a", "b", "p"] (sp_subtract_rows K) := ⟨f19, _, ok_subtract_rows F19 C_add_rows, PySem.W.mg_of X G a19, k19, b19⟩
  have C_common_row : Cal l.prog w K mg base (CX l.prog w) 4 "common_row" ["a", "b", "p"] (sp_common_row K (⟨some c_fault, some c_zd, some c_mal, some c_refu, none⟩ : Xc)) := ⟨f20, _, ok_common_row F20 C_divide_rows C_inverse_modulo C_multiply_rows, PySem.W.mg_of X G a20, k20, b20⟩
  have C_is_irreducible_row : Cal l.prog w K mg base (CX l.prog w) 7 "is_irreducible_row" ["m", "p"] (sp_is_irreducible_row K (⟨some c_fault, some c_zd, some c_mal, some c_refu, none⟩ : Xc) TT) := ⟨f21, _, ok_is_irreducible_row F21 z_len z_range C_power_row C_subtract_rows C_common_row, PySem.W.mg_of X G a21, k21, b21⟩
  have C_check_making : Cal l.prog w K mg base (CX l.prog w) 8 "check_making" ["p", "modulus"] (sp_check_making K (⟨some c_fault, some c_zd, some c_mal, some c_refu, none⟩ : Xc) TT) := ⟨f22, _, ok_check_making F22 z_isinstance z_tuple z_list z_all z_len Xk_mal gk_MOST_MEMBERS C_is_integer C_is_prime C_power_within C_is_irreducible_row, PySem.W.mg_of X G a22, k22, b22⟩
  have C_digits : Cal l.prog w K mg base CX0 1 "digits" ["number", "base", "count"] (sp_digits K) := ⟨f23, _, ok_digits F23 z_range z_tuple, PySem.W.mg_of X G a23, k23, b23⟩
  have C_trimmed_2 : Cal l.prog w K mg base CX0 2 "trimmed" ["row", "p"] (sp_trimmed_2 K) := ⟨f12, _, ok_trimmed_2 F12 C_without_end, PySem.W.mg_of X G a12, k12, b12⟩
  have C_powers_of : Cal l.prog w K mg base (CX l.prog w) 4 "powers_of" ["a", "p", "modulus"] (sp_powers_of K (⟨some c_fault, some c_zd, some c_mal, some c_refu, none⟩ : Xc)) := ⟨f24, _, ok_powers_of F24 z_len z_range z_zip z_sum z_tuple C_trimmed_2 C_divide_rows C_filled_up, PySem.W.mg_of X G a24, k24, b24⟩
  have C_primitive_powers : Cal l.prog w K mg base (CX l.prog w) 5 "primitive_powers" ["members", "p", "modulus"] (sp_primitive_powers K (⟨some c_fault, some c_zd, some c_mal, some c_refu, none⟩ : Xc)) := ⟨f25, _, ok_primitive_powers F25 z_len C_powers_of, PySem.W.mg_of X G a25, k25, b25⟩
  have C_written_power : Cal l.prog w K mg base CX0 1 "written_power" ["name", "k"] (sp_written_power K) := ⟨f26, _, ok_written_power F26 , PySem.W.mg_of X G a26, k26, b26⟩
  have C_written_term : Cal l.prog w K mg base CX0 2 "written_term" ["coefficient", "k"] (sp_written_term K) := ⟨f27, _, ok_written_term F27 C_written_power, PySem.W.mg_of X G a27, k27, b27⟩
  have C_Field_written : CalM l.prog w K mg base CX0 3 c_Field "written" ["self", "a"] (sp_Field_written K c_Field) := ⟨f28, _, ok_Field_written F28 z_reversed z_range kl_Field na_Field_n C_written_term, ⟨a28, i28, k28⟩, b28⟩
  have C_Field___init__ : CalI l.prog w K mg base (CX l.prog w) 9 c_Field "Field" ["self", "p", "modulus"] (sp_Field___init__ K c_Field (⟨some c_fault, some c_zd, some c_mal, some c_refu, none⟩ : Xc) TT) := ⟨f29, _, ok_Field___init__ F29 z_tuple z_len z_range z_enumerate kl_Field na_Field_p na_Field_modulus na_Field_n gk_MOST_MEMBERS na_Field_q na_Field__members na_Field__powers na_Field__logarithms na_Field__texts C_check_making C_power_within C_digits C_primitive_powers C_Field_written, ⟨mk_Field, a29, i29, kp_Field⟩, PySem.W.mg_of X G gn_Field, b29⟩
  have C__law_field : Cal l.prog w K mg base CX0 11 "_law_field" ["numbers", "most"] (sp__law_field K c_Field TT) := ⟨f30, _, ok__law_field F30 z_len C__law_next C__law_modulus C_Field___init__, PySem.W.mg_of X G a30, k30, b30⟩
  have C__law_zero : Cal l.prog w K mg base CX0 2 "_law_zero" ["field"] (sp__law_zero K c_Field) := ⟨f31, _, ok__law_zero F31 kl_Field na_Field_p na_Field_n C__law_member, PySem.W.mg_of X G a31, k31, b31⟩
  have C__law_one : Cal l.prog w K mg base CX0 2 "_law_one" ["field"] (sp__law_one K c_Field) := ⟨f32, _, ok__law_one F32 kl_Field na_Field_p na_Field_n C__law_member, PySem.W.mg_of X G a32, k32, b32⟩
  have C__law_times : Cal l.prog w K mg base CX0 1 "_law_times" ["field", "a", "b"] (sp__law_times K c_Field) := ⟨f33, _, ok__law_times F33 z_range z_tuple kl_Field na_Field_n na_Field_modulus na_Field_p, PySem.W.mg_of X G a33, k33, b33⟩
  have C__law_add : Cal l.prog w K mg base CX0 1 "_law_add" ["field", "a", "b"] (sp__law_add K c_Field) := ⟨f34, _, ok__law_add F34 z_range z_tuple kl_Field na_Field_n na_Field_p, PySem.W.mg_of X G a34, k34, b34⟩
  have C__law_value : Cal l.prog w K mg base CX0 3 "_law_value" ["field", "row", "a"] (sp__law_value K c_Field) := ⟨f35, _, ok__law_value F35 z_len z_range C__law_zero C__law_times C__law_add, PySem.W.mg_of X G a35, k35, b35⟩
  have C_Field_is_member : CalM l.prog w K mg base CX0 2 c_Field "is_member" ["self", "value"] (sp_Field_is_member K c_Field) := ⟨f36, _, ok_Field_is_member F36 z_isinstance z_tuple z_len z_all kl_Field na_Field_n na_Field_p C_is_integer, ⟨a36, i36, k36⟩, b36⟩
  have C_Field_zero : CalM l.prog w K mg base CX0 1 c_Field "zero" ["self"] (sp_Field_zero K c_Field) := ⟨f37, _, ok_Field_zero F37 kl_Field na_Field__members, ⟨a37, i37, k37⟩, b37⟩
  have C_without_end_2 : Cal l.prog w K mg base CX0 1 "without_end" ["items", "zero"] (sp_without_end_2 K) := ⟨f11, _, ok_without_end_2 F11 z_len z_tuple, PySem.W.mg_of X G a11, k11, b11⟩
  have C_Poly___init__ : CalI l.prog w K mg base (CX l.prog w) 3 c_Poly "Poly" ["self", "field", "row"] (sp_Poly___init__ K c_Field c_Poly (⟨some c_fault, some c_zd, some c_mal, some c_refu, none⟩ : Xc)) := ⟨f38, _, ok_Poly___init__ F38 z_all kl_Field Xk_mal kl_Poly na_Poly_field na_Poly_row C_Field_is_member C_Field_zero C_without_end_2, ⟨mk_Poly, a38, i38, kp_Poly⟩, PySem.W.mg_of X G gn_Poly, b38⟩
  have C_Poly_is_zero : CalM l.prog w K mg base CX0 1 c_Poly "is_zero" ["self"] (sp_Poly_is_zero K c_Field c_Poly) := ⟨f39, _, ok_Poly_is_zero F39 z_len kl_Poly na_Poly_row, ⟨a39, i39, k39⟩, b39⟩
  have C_Field_multiply : CalM l.prog w K mg base CX0 1 c_Field "multiply" ["self", "a", "b"] (sp_Field_multiply K c_Field) := ⟨f40, _, ok_Field_multiply F40 kl_Field na_Field__members na_Field__powers na_Field__logarithms na_Field_q, ⟨a40, i40, k40⟩, b40⟩
  have C_Field_add : CalM l.prog w K mg base CX0 1 c_Field "add" ["self", "a", "b"] (sp_Field_add K c_Field) := ⟨f41, _, ok_Field_add F41 z_zip z_tuple kl_Field na_Field_p, ⟨a41, i41, k41⟩, b41⟩
  have C_Poly___call__ : CalM l.prog w K mg base CX0 2 c_Poly "__call__" ["self", "a"] (sp_Poly___call__ K c_Field c_Poly) := ⟨f42, _, ok_Poly___call__ F42 z_reversed kl_Poly na_Poly_field kl_Field na_Poly_row C_Field_zero C_Field_multiply C_Field_add, ⟨a42, i42, k42⟩, b42⟩
  have C_roots : Cal l.prog w K mg base (CX l.prog w) 3 "roots" ["f"] (sp_roots K c_Field c_Poly (⟨some c_fault, some c_zd, some c_mal, some c_refu, none⟩ : Xc)) := ⟨f43, _, ok_roots F43 z_tuple kl_Poly Xk_zd na_Poly_field kl_Field gd_Field_members C_Poly_is_zero C_Poly___call__ C_Field_zero, PySem.W.mg_of X G a43, k43, b43⟩
  exact ok_law F44 z_range z_len z_list kl_Field na_Field_p na_Field_n na_Field_q em_zd_zd gc_zd C__law_numbers C__law_field C__law_next C__law_member C__law_zero C__law_one C__law_value C_Poly___init__ C_roots

end Pf
set_option Elab.async false
set_option linter.all false
set_option maxRecDepth 100000
set_option autoImplicit false
namespace Pf
open PySem PySem.Spec PyProof.Rows L2 Mir
/-! ### the numbers that are drawn -/
def Good (t : List Int) : Prop := t.length ≤ 4000 ∧ ∀ x ∈ t, 0 ≤ x
theorem foldR_cnt {α σ : Type} {f : σ → α → R σ} (I : Nat → σ → Prop) : ∀ (xs : List α) (k : Nat) (s : σ), (∀ k' s x, k' < k + xs.length → I k' s → x ∈ xs → ∃ s', f s x = .ok s' ∧ I (k' + 1) s') → I k s → ∃ s', foldR f s xs = .ok s' ∧ I (k + xs.length) s'
  | [], k, s, _, hs => ⟨s, rfl, hs⟩
  | x :: xs, k, s, h, hs => by
    obtain ⟨s1, e, i1⟩ := h k s x (by simp) hs List.mem_cons_self
    obtain ⟨s2, e2, i2⟩ := foldR_cnt I xs (k + 1) s1 (fun k' s' y hk hi hy => h k' s' y (by simp only [List.length_cons]; omega) hi (List.mem_cons_of_mem _ hy)) i1
    exact ⟨s2, by show (f s x).bind _ = _; rw [e]; exact e2, by rw [List.length_cons]; rw [show k + (xs.length + 1) = k + 1 + xs.length by omega]; exact i2⟩
theorem lenLt_small {α : Type} {xs : List α} (h : xs.length ≤ 100000) : lenLt xs := Nat.lt_of_le_of_lt h (by decide)
theorem getL_in {α : Type} {xs : List α} {i : Int} (h0 : 0 ≤ i) (h1 : i < xs.length) : ∃ x, getL xs i = .ok x ∧ x ∈ xs := by
  have hi : i.toNat < xs.length := by omega
  refine ⟨xs[i.toNat], ?_, List.getElem_mem hi⟩
  unfold getL atI ixN
  rw [if_pos h0, if_pos h1]
  show (match xs[i.toNat]? with | some x => R.ok x | none => R.out) = _
  rw [List.getElem?_eq_getElem hi]
theorem numbers_ok (ns : List Int) (hn : ns.length ≤ 63) : ∃ t, m__law_numbers ns = .ok t ∧ Good t := by
  have key : ∀ (k : Nat) (s : List Int) (x : Int), k < 63 → (s.length ≤ 60 * k ∧ ∀ y ∈ s, 0 ≤ y) → 0 ≤ x → x < ns.length → ∃ s', m__law_numbers_b3 ns s x = .ok s' ∧ (s'.length ≤ 60 * (k + 1) ∧ ∀ y ∈ s', 0 ≤ y) := by
    intro k s x hk hs hx0 hx1
    obtain ⟨c, ec, _⟩ := getL_in hx0 hx1
    unfold m__law_numbers_b3
    rw [ec, R.bind_ok]
    split
    · rw [grd_ok (show rgOk 60 by decide)]
      obtain ⟨r, e, h⟩ := foldR_cnt (f := m__law_numbers_b1) (fun j (q : List Int × Int) => q.1.length ≤ 60 * k + j ∧ ∀ y ∈ q.1, 0 ≤ y) (rng 0 ((60 : Int)).toNat) 0 (s, pabs c) (fun j q y hj hq _ => by
        rw [rng_length] at hj
        unfold m__law_numbers_b1
        split
        · rw [grd_ok (lenLt_small (by have := hq.1; have : ((60 : Int)).toNat = 60 := rfl; omega))]
          refine ⟨_, rfl, by simp only [List.length_append, List.length_singleton]; have := hq.1; omega, fun z hz => ?_⟩
          rcases List.mem_append.mp hz with hz | hz
          · exact hq.2 z hz
          · rw [List.mem_singleton.mp hz]; exact Int.emod_nonneg _ (by decide)
        · exact ⟨_, rfl, by have := hq.1; exact Nat.le_succ_of_le this, hq.2⟩) ⟨by have := hs.1; simpa using this, hs.2⟩
      rw [e, R.bind_ok]
      rw [rng_length] at h
      exact ⟨_, rfl, by have := h.1; have : ((60 : Int)).toNat = 60 := rfl; omega, h.2⟩
    · rw [grd_ok (show rgOk 5 by decide)]
      obtain ⟨r, e, h⟩ := foldR_cnt (f := m__law_numbers_b2 x) (fun j (q : List Int × Int) => q.1.length ≤ 60 * k + j ∧ ∀ y ∈ q.1, 0 ≤ y) (rng 0 ((5 : Int)).toNat) 0 (s, pabs c) (fun j q y hj hq _ => by
        rw [rng_length] at hj
        unfold m__law_numbers_b2
        rw [grd_ok (lenLt_small (by have := hq.1; have : ((5 : Int)).toNat = 5 := rfl; omega))]
        refine ⟨_, rfl, by simp only [List.length_append, List.length_singleton]; have := hq.1; omega, fun z hz => ?_⟩
        rcases List.mem_append.mp hz with hz | hz
        · exact hq.2 z hz
        · rw [List.mem_singleton.mp hz]; exact Int.emod_nonneg _ (by decide)) ⟨by have := hs.1; simpa using this, hs.2⟩
      rw [e, R.bind_ok]
      rw [rng_length] at h
      exact ⟨_, rfl, by have := h.1; have : ((5 : Int)).toNat = 5 := rfl; omega, h.2⟩
  have hp : pmin (ns.length : Int) 63 = ns.length := by unfold pmin; split <;> omega
  unfold m__law_numbers
  rw [hp, grd_ok (show rgOk (ns.length : Int) from ⟨by omega, by omega⟩)]
  obtain ⟨t, e, h⟩ := foldR_cnt (f := m__law_numbers_b3 ns) (fun k s => s.length ≤ 60 * k ∧ ∀ y ∈ s, 0 ≤ y) (rng 0 ((ns.length : Int)).toNat) 0 [] (fun k s x hk hs hx => by
    rw [rng_length] at hk
    have := rng_mem hx
    exact key k s x (by omega) hs (by omega) (by omega)) ⟨by simp, fun y hy => by cases hy⟩
  rw [e, R.bind_ok]
  rw [rng_length] at h
  exact ⟨t, rfl, by have := h.1; omega, h.2⟩
theorem next_ok (t : List Int) (m : Int) (g : Good t) (hm : 0 < m) : ∃ v t', m__law_next t m = .ok (v, t') ∧ Good t' ∧ 0 ≤ v ∧ v < m := by
  cases t with
  | nil => exact ⟨0, [], rfl, g, Int.le_refl _, hm⟩
  | cons x r =>
    refine ⟨x % m, r, ?_, ⟨by have := g.1; simp only [List.length_cons] at this; omega, fun y hy => g.2 y (List.mem_cons_of_mem _ hy)⟩, Int.emod_nonneg _ (by omega), Int.emod_lt_of_pos _ hm⟩
    have e : popAtL (x :: r) 0 = .ok (x, r) := by
      unfold popAtL
      rw [if_pos ⟨by decide, by decide⟩]
      have z : seqIndex? 0 (x :: r).length = some 0 := by
        unfold seqIndex?
        simp
      rw [z]
      rfl
    unfold m__law_next
    rw [if_neg (by simp; omega), e, R.bind_ok, grd_ok hm]
end Pf
set_option Elab.async false
set_option linter.all false
set_option maxRecDepth 100000
set_option autoImplicit false
namespace Pf
open PySem PySem.Spec PyProof.Rows L2 Mir
/-! ### the fields that are drawn, worked out once -/
abbrev O7 := Int × (List Int) × Int × Int × (List (List Int)) × (List (List Int)) × (List ((List Int) × Int))
def fieldOf (p n r : Int) : R O_Field := (m__law_modulus p n r).bind fun m => m_Field___init__ () p m
def toF (L : O7) (tx : List (PySem.Str × (List Int))) : O_Field := (L.1, L.2.1, L.2.2.1, L.2.2.2.1, L.2.2.2.2.1, L.2.2.2.2.2.1, L.2.2.2.2.2.2, tx)
def isF (p n r : Int) (L : O7) : Bool := match fieldOf p n r with
  | .ok F => decide (F.1 = L.1) && (decide (F.2.1 = L.2.1) && (decide (F.2.2.1 = L.2.2.1) && (decide (F.2.2.2.1 = L.2.2.2.1) && (decide (F.2.2.2.2.1 = L.2.2.2.2.1) && (decide (F.2.2.2.2.2.1 = L.2.2.2.2.2.1) && decide (F.2.2.2.2.2.2.1 = L.2.2.2.2.2.2))))))
  | _ => false
theorem isF_ok {p n r : Int} {L : O7} (h : isF p n r L = true) : ∃ tx, fieldOf p n r = .ok (toF L tx) := by
  unfold isF at h
  cases e : fieldOf p n r with
  | er x => rw [e] at h; cases h
  | out => rw [e] at h; cases h
  | ok F =>
    rw [e] at h
    simp only [Bool.and_eq_true, decide_eq_true_eq] at h
    obtain ⟨h1, h2, h3, h4, h5, h6, h7⟩ := h
    refine ⟨F.2.2.2.2.2.2.2, ?_⟩
    unfold toF
    rw [← h1, ← h2, ← h3, ← h4, ← h5, ← h6, ← h7]
theorem foldR_congr {α σ : Type} {f g : σ → α → R σ} : ∀ (xs : List α) (s : σ), (∀ s, ∀ x ∈ xs, f s x = g s x) → foldR f s xs = foldR g s xs
  | [], _, _ => rfl
  | x :: xs, s, h => by
    show (f s x).bind _ = (g s x).bind _
    rw [h s x List.mem_cons_self]
    congr 1
    funext s'
    exact foldR_congr xs s' fun s y hy => h s y (List.mem_cons_of_mem _ hy)
theorem foldR_app {α σ : Type} {f : σ → α → R σ} : ∀ (xs ys : List α) (s : σ), foldR f s (xs ++ ys) = (foldR f s xs).bind fun s' => foldR f s' ys
  | [], _, _ => rfl
  | x :: xs, ys, s => by
    show (f s x).bind _ = ((f s x).bind _).bind _
    cases f s x with
    | ok s1 => exact foldR_app xs ys s1
    | er e => rfl
    | out => rfl
theorem rng_snoc (lo : Int) : ∀ n : Nat, rng lo (n + 1) = rng lo n ++ [lo + n]
  | 0 => by show [lo] = [lo + ((0 : Nat) : Int)]; rw [show lo + ((0 : Nat) : Int) = lo by omega]
  | n + 1 => by
    show lo :: rng (lo + 1) (n + 1) = lo :: (rng (lo + 1) n ++ [lo + ((n + 1 : Nat) : Int)])
    rw [rng_snoc (lo + 1) n]
    congr 3
    omega

def szs : List (Int × Int) := [(2, 1), (3, 1), (2, 2), (5, 1), (3, 2), (2, 3), (7, 1)]
def tabF : List ((Int × Int × Int) × O7) := [
  ((2, 1, 0), (2, [0, 1], 1, 2, [[0], [1]], [[1]], [([1], 0)])),
  ((2, 1, 1), (2, [1, 1], 1, 2, [[0], [1]], [[1]], [([1], 0)])),
  ((3, 1, 0), (3, [0, 1], 1, 3, [[0], [1], [2]], [[1], [2]], [([1], 0), ([2], 1)])),
  ((3, 1, 1), (3, [1, 1], 1, 3, [[0], [1], [2]], [[1], [2]], [([1], 0), ([2], 1)])),
  ((3, 1, 2), (3, [2, 1], 1, 3, [[0], [1], [2]], [[1], [2]], [([1], 0), ([2], 1)])),
  ((2, 2, 0), (2, [1, 1, 1], 2, 4, [[0, 0], [1, 0], [0, 1], [1, 1]], [[1, 0], [0, 1], [1, 1]], [([1, 0], 0), ([0, 1], 1), ([1, 1], 2)])),
  ((2, 2, 1), (2, [1, 1, 1], 2, 4, [[0, 0], [1, 0], [0, 1], [1, 1]], [[1, 0], [0, 1], [1, 1]], [([1, 0], 0), ([0, 1], 1), ([1, 1], 2)])),
  ((5, 1, 0), (5, [0, 1], 1, 5, [[0], [1], [2], [3], [4]], [[1], [2], [4], [3]], [([1], 0), ([2], 1), ([4], 2), ([3], 3)])),
  ((5, 1, 1), (5, [1, 1], 1, 5, [[0], [1], [2], [3], [4]], [[1], [2], [4], [3]], [([1], 0), ([2], 1), ([4], 2), ([3], 3)])),
  ((5, 1, 2), (5, [2, 1], 1, 5, [[0], [1], [2], [3], [4]], [[1], [2], [4], [3]], [([1], 0), ([2], 1), ([4], 2), ([3], 3)])),
  ((5, 1, 3), (5, [3, 1], 1, 5, [[0], [1], [2], [3], [4]], [[1], [2], [4], [3]], [([1], 0), ([2], 1), ([4], 2), ([3], 3)])),
  ((5, 1, 4), (5, [4, 1], 1, 5, [[0], [1], [2], [3], [4]], [[1], [2], [4], [3]], [([1], 0), ([2], 1), ([4], 2), ([3], 3)])),
  ((3, 2, 0), (3, [1, 0, 1], 2, 9, [[0, 0], [1, 0], [2, 0], [0, 1], [1, 1], [2, 1], [0, 2], [1, 2], [2, 2]], [[1, 0], [1, 1], [0, 2], [1, 2], [2, 0], [2, 2], [0, 1], [2, 1]], [([1, 0], 0), ([1, 1], 1), ([0, 2], 2), ([1, 2], 3), ([2, 0], 4), ([2, 2], 5), ([0, 1], 6), ([2, 1], 7)])),
  ((3, 2, 1), (3, [1, 0, 1], 2, 9, [[0, 0], [1, 0], [2, 0], [0, 1], [1, 1], [2, 1], [0, 2], [1, 2], [2, 2]], [[1, 0], [1, 1], [0, 2], [1, 2], [2, 0], [2, 2], [0, 1], [2, 1]], [([1, 0], 0), ([1, 1], 1), ([0, 2], 2), ([1, 2], 3), ([2, 0], 4), ([2, 2], 5), ([0, 1], 6), ([2, 1], 7)])),
  ((3, 2, 2), (3, [2, 1, 1], 2, 9, [[0, 0], [1, 0], [2, 0], [0, 1], [1, 1], [2, 1], [0, 2], [1, 2], [2, 2]], [[1, 0], [0, 1], [1, 2], [2, 2], [2, 0], [0, 2], [2, 1], [1, 1]], [([1, 0], 0), ([0, 1], 1), ([1, 2], 2), ([2, 2], 3), ([2, 0], 4), ([0, 2], 5), ([2, 1], 6), ([1, 1], 7)])),
  ((2, 3, 0), (2, [1, 1, 0, 1], 3, 8, [[0, 0, 0], [1, 0, 0], [0, 1, 0], [1, 1, 0], [0, 0, 1], [1, 0, 1], [0, 1, 1], [1, 1, 1]], [[1, 0, 0], [0, 1, 0], [0, 0, 1], [1, 1, 0], [0, 1, 1], [1, 1, 1], [1, 0, 1]], [([1, 0, 0], 0), ([0, 1, 0], 1), ([0, 0, 1], 2), ([1, 1, 0], 3), ([0, 1, 1], 4), ([1, 1, 1], 5), ([1, 0, 1], 6)])),
  ((2, 3, 1), (2, [1, 1, 0, 1], 3, 8, [[0, 0, 0], [1, 0, 0], [0, 1, 0], [1, 1, 0], [0, 0, 1], [1, 0, 1], [0, 1, 1], [1, 1, 1]], [[1, 0, 0], [0, 1, 0], [0, 0, 1], [1, 1, 0], [0, 1, 1], [1, 1, 1], [1, 0, 1]], [([1, 0, 0], 0), ([0, 1, 0], 1), ([0, 0, 1], 2), ([1, 1, 0], 3), ([0, 1, 1], 4), ([1, 1, 1], 5), ([1, 0, 1], 6)])),
  ((7, 1, 0), (7, [0, 1], 1, 7, [[0], [1], [2], [3], [4], [5], [6]], [[1], [3], [2], [6], [4], [5]], [([1], 0), ([3], 1), ([2], 2), ([6], 3), ([4], 4), ([5], 5)])),
  ((7, 1, 1), (7, [1, 1], 1, 7, [[0], [1], [2], [3], [4], [5], [6]], [[1], [3], [2], [6], [4], [5]], [([1], 0), ([3], 1), ([2], 2), ([6], 3), ([4], 4), ([5], 5)])),
  ((7, 1, 2), (7, [2, 1], 1, 7, [[0], [1], [2], [3], [4], [5], [6]], [[1], [3], [2], [6], [4], [5]], [([1], 0), ([3], 1), ([2], 2), ([6], 3), ([4], 4), ([5], 5)])),
  ((7, 1, 3), (7, [3, 1], 1, 7, [[0], [1], [2], [3], [4], [5], [6]], [[1], [3], [2], [6], [4], [5]], [([1], 0), ([3], 1), ([2], 2), ([6], 3), ([4], 4), ([5], 5)])),
  ((7, 1, 4), (7, [4, 1], 1, 7, [[0], [1], [2], [3], [4], [5], [6]], [[1], [3], [2], [6], [4], [5]], [([1], 0), ([3], 1), ([2], 2), ([6], 3), ([4], 4), ([5], 5)])),
  ((7, 1, 5), (7, [5, 1], 1, 7, [[0], [1], [2], [3], [4], [5], [6]], [[1], [3], [2], [6], [4], [5]], [([1], 0), ([3], 1), ([2], 2), ([6], 3), ([4], 4), ([5], 5)])),
  ((7, 1, 6), (7, [6, 1], 1, 7, [[0], [1], [2], [3], [4], [5], [6]], [[1], [3], [2], [6], [4], [5]], [([1], 0), ([3], 1), ([2], 2), ([6], 3), ([4], 4), ([5], 5)]))]
def lit (p n r : Int) : O7 := match tabF.lookup (p, n, r) with
  | some L => L
  | none => (0, [], 0, 0, [], [], [])
def each (f : Int → Int → Int → Bool) : Bool := szs.all fun c => (rng 0 c.1.toNat).all fun r => f c.1 c.2 r
theorem each_ok {f : Int → Int → Int → Bool} (h : each f = true) {p n r : Int} (hc : (p, n) ∈ szs) (hr : r ∈ rng 0 p.toNat) : f p n r = true :=
  List.all_eq_true.mp (List.all_eq_true.mp h _ hc) _ hr
def eachC (p n : Int) (f : Int → Bool) : Bool := (rng 0 p.toNat).all f
def all_each : Bool := each (fun p n r => isF p n r (lit p n r))
theorem all_F : each (fun p n r => isF p n r (lit p n r)) = true := by kernel_rfl
def chkM (F : O_Field) : Bool := decide (F.2.2.2.2.1.length = F.2.2.2.1.toNat ∧ 2 ≤ F.2.2.2.1 ∧ F.2.2.2.1 < 10) && ((rng 0 F.2.2.2.1.toNat).all (fun v => decide (m__law_member F.1 F.2.2.1 v = .ok (F.2.2.2.2.1.getD v.toNat []))) &&
  (decide (m__law_zero F = .ok (F.2.2.2.2.1.getD 0 [])) && (decide (m_Field_zero F = .ok (F.2.2.2.2.1.getD 0 [])) && (decide (m__law_one F = .ok (F.2.2.2.2.1.getD 1 [])) && (decide (F.2.2.2.2.1.getD 1 [] ≠ F.2.2.2.2.1.getD 0 []) &&
  (F.2.2.2.2.1.all (fun a => decide (m_Field_is_member F a = .ok true) && decide (m__law_times F (F.2.2.2.2.1.getD 0 []) a = .ok (F.2.2.2.2.1.getD 0 []))) && decide (m__law_add F (F.2.2.2.2.1.getD 0 []) (F.2.2.2.2.1.getD 0 []) = .ok (F.2.2.2.2.1.getD 0 []))))))))
def two (x y : R (List Int)) (l : List (List Int)) : Bool := match x with
  | .ok c => l.contains c && decide (y = .ok c)
  | _ => false
def chkT (F : O_Field) : Bool := F.2.2.2.2.1.all fun a => F.2.2.2.2.1.all fun b => two (m__law_times F a b) (m_Field_multiply F a b) F.2.2.2.2.1
def chkS (F : O_Field) : Bool := F.2.2.2.2.1.all fun a => F.2.2.2.2.1.all fun b => two (m__law_add F a b) (m_Field_add F a b) F.2.2.2.2.1
theorem all_chkM0 (tx) : eachC 2 1 (fun r => chkM (toF (lit 2 1 r) tx)) = true := by kernel_rfl
theorem all_chkM1 (tx) : eachC 3 1 (fun r => chkM (toF (lit 3 1 r) tx)) = true := by kernel_rfl
theorem all_chkM2 (tx) : eachC 2 2 (fun r => chkM (toF (lit 2 2 r) tx)) = true := by kernel_rfl
theorem all_chkM3 (tx) : eachC 5 1 (fun r => chkM (toF (lit 5 1 r) tx)) = true := by kernel_rfl
theorem all_chkM4 (tx) : eachC 3 2 (fun r => chkM (toF (lit 3 2 r) tx)) = true := by kernel_rfl
theorem all_chkM5 (tx) : eachC 2 3 (fun r => chkM (toF (lit 2 3 r) tx)) = true := by kernel_rfl
theorem all_chkM6 (tx) : eachC 7 1 (fun r => chkM (toF (lit 7 1 r) tx)) = true := by kernel_rfl
theorem all_chkM (tx) {p n r : Int} (hc : (p, n) ∈ szs) (hr : r ∈ rng 0 p.toNat) : chkM (toF (lit p n r) tx) = true := by
  unfold szs at hc
  simp only [List.mem_cons, Prod.mk.injEq, List.not_mem_nil, or_false] at hc
  rcases hc with ⟨rfl, rfl⟩ | ⟨rfl, rfl⟩ | ⟨rfl, rfl⟩ | ⟨rfl, rfl⟩ | ⟨rfl, rfl⟩ | ⟨rfl, rfl⟩ | ⟨rfl, rfl⟩
  · exact List.all_eq_true.mp (all_chkM0 tx) r hr
  · exact List.all_eq_true.mp (all_chkM1 tx) r hr
  · exact List.all_eq_true.mp (all_chkM2 tx) r hr
  · exact List.all_eq_true.mp (all_chkM3 tx) r hr
  · exact List.all_eq_true.mp (all_chkM4 tx) r hr
  · exact List.all_eq_true.mp (all_chkM5 tx) r hr
  · exact List.all_eq_true.mp (all_chkM6 tx) r hr
theorem all_chkT0 (tx) : eachC 2 1 (fun r => chkT (toF (lit 2 1 r) tx)) = true := by kernel_rfl
theorem all_chkT1 (tx) : eachC 3 1 (fun r => chkT (toF (lit 3 1 r) tx)) = true := by kernel_rfl
theorem all_chkT2 (tx) : eachC 2 2 (fun r => chkT (toF (lit 2 2 r) tx)) = true := by kernel_rfl
theorem all_chkT3 (tx) : eachC 5 1 (fun r => chkT (toF (lit 5 1 r) tx)) = true := by kernel_rfl
theorem all_chkT4 (tx) : eachC 3 2 (fun r => chkT (toF (lit 3 2 r) tx)) = true := by kernel_rfl
theorem all_chkT5 (tx) : eachC 2 3 (fun r => chkT (toF (lit 2 3 r) tx)) = true := by kernel_rfl
theorem all_chkT6 (tx) : eachC 7 1 (fun r => chkT (toF (lit 7 1 r) tx)) = true := by kernel_rfl
theorem all_chkT (tx) {p n r : Int} (hc : (p, n) ∈ szs) (hr : r ∈ rng 0 p.toNat) : chkT (toF (lit p n r) tx) = true := by
  unfold szs at hc
  simp only [List.mem_cons, Prod.mk.injEq, List.not_mem_nil, or_false] at hc
  rcases hc with ⟨rfl, rfl⟩ | ⟨rfl, rfl⟩ | ⟨rfl, rfl⟩ | ⟨rfl, rfl⟩ | ⟨rfl, rfl⟩ | ⟨rfl, rfl⟩ | ⟨rfl, rfl⟩
  · exact List.all_eq_true.mp (all_chkT0 tx) r hr
  · exact List.all_eq_true.mp (all_chkT1 tx) r hr
  · exact List.all_eq_true.mp (all_chkT2 tx) r hr
  · exact List.all_eq_true.mp (all_chkT3 tx) r hr
  · exact List.all_eq_true.mp (all_chkT4 tx) r hr
  · exact List.all_eq_true.mp (all_chkT5 tx) r hr
  · exact List.all_eq_true.mp (all_chkT6 tx) r hr
theorem all_chkS0 (tx) : eachC 2 1 (fun r => chkS (toF (lit 2 1 r) tx)) = true := by kernel_rfl
theorem all_chkS1 (tx) : eachC 3 1 (fun r => chkS (toF (lit 3 1 r) tx)) = true := by kernel_rfl
theorem all_chkS2 (tx) : eachC 2 2 (fun r => chkS (toF (lit 2 2 r) tx)) = true := by kernel_rfl
theorem all_chkS3 (tx) : eachC 5 1 (fun r => chkS (toF (lit 5 1 r) tx)) = true := by kernel_rfl
theorem all_chkS4 (tx) : eachC 3 2 (fun r => chkS (toF (lit 3 2 r) tx)) = true := by kernel_rfl
theorem all_chkS5 (tx) : eachC 2 3 (fun r => chkS (toF (lit 2 3 r) tx)) = true := by kernel_rfl
theorem all_chkS6 (tx) : eachC 7 1 (fun r => chkS (toF (lit 7 1 r) tx)) = true := by kernel_rfl
theorem all_chkS (tx) {p n r : Int} (hc : (p, n) ∈ szs) (hr : r ∈ rng 0 p.toNat) : chkS (toF (lit p n r) tx) = true := by
  unfold szs at hc
  simp only [List.mem_cons, Prod.mk.injEq, List.not_mem_nil, or_false] at hc
  rcases hc with ⟨rfl, rfl⟩ | ⟨rfl, rfl⟩ | ⟨rfl, rfl⟩ | ⟨rfl, rfl⟩ | ⟨rfl, rfl⟩ | ⟨rfl, rfl⟩ | ⟨rfl, rfl⟩
  · exact List.all_eq_true.mp (all_chkS0 tx) r hr
  · exact List.all_eq_true.mp (all_chkS1 tx) r hr
  · exact List.all_eq_true.mp (all_chkS2 tx) r hr
  · exact List.all_eq_true.mp (all_chkS3 tx) r hr
  · exact List.all_eq_true.mp (all_chkS4 tx) r hr
  · exact List.all_eq_true.mp (all_chkS5 tx) r hr
  · exact List.all_eq_true.mp (all_chkS6 tx) r hr
end Pf
set_option Elab.async false
set_option linter.all false
set_option maxRecDepth 100000
set_option autoImplicit false
namespace Pf
open PySem PySem.Spec PyProof.Rows L2 Mir
theorem field_ok (t : List Int) (g : Good t) : ∃ p n r t', (p, n) ∈ szs ∧ r ∈ rng 0 p.toNat ∧ Good t' ∧ m__law_field t 7 = (fieldOf p n r).bind fun F => R.ok (F, t') := by
  obtain ⟨i, t1, e1, g1, i0, i1⟩ := next_ok t 7 g (by decide)
  have step : ∀ p n : Int, (p, n) ∈ szs → 0 < p → getL (cutT ([((2 : Int), (1 : Int)), ((3 : Int), (1 : Int)), ((2 : Int), (2 : Int)), ((5 : Int), (1 : Int)), ((3 : Int), (2 : Int)), ((2 : Int), (3 : Int)), ((7 : Int), (1 : Int))]) none (some (7 : Int))) i = .ok (p, n) →
      ∃ p n r t', (p, n) ∈ szs ∧ r ∈ rng 0 p.toNat ∧ Good t' ∧ m__law_field t 7 = (fieldOf p n r).bind fun F => R.ok (F, t') := by
    intro p n hm hp hi
    obtain ⟨r, t2, e2, g2, r0, r1⟩ := next_ok t1 p g1 hp
    refine ⟨p, n, r, t2, hm, mem_rng r0 (by omega), g2, ?_⟩
    unfold m__law_field
    have hl : (((cutT ([((2 : Int), (1 : Int)), ((3 : Int), (1 : Int)), ((2 : Int), (2 : Int)), ((5 : Int), (1 : Int)), ((3 : Int), (2 : Int)), ((2 : Int), (3 : Int)), ((7 : Int), (1 : Int))]) none (some (7 : Int))).length : Nat) : Int) = 7 := by decide
    rw [hl, e1]
    show (getL _ i).bind _ = _
    rw [hi]
    show (m__law_next t1 p).bind _ = _
    rw [e2]
    unfold fieldOf
    show (m__law_modulus p n r).bind _ = _
    cases m__law_modulus p n r with
    | ok m => show (m_Field___init__ () p m).bind _ = (m_Field___init__ () p m).bind _; rfl
    | er z => rfl
    | out => rfl
  have hi : i = 0 ∨ i = 1 ∨ i = 2 ∨ i = 3 ∨ i = 4 ∨ i = 5 ∨ i = 6 := by omega
  rcases hi with rfl | rfl | rfl | rfl | rfl | rfl | rfl
  · exact step 2 1 (by decide) (by decide) (by decide)
  · exact step 3 1 (by decide) (by decide) (by decide)
  · exact step 2 2 (by decide) (by decide) (by decide)
  · exact step 5 1 (by decide) (by decide) (by decide)
  · exact step 3 2 (by decide) (by decide) (by decide)
  · exact step 2 3 (by decide) (by decide) (by decide)
  · exact step 7 1 (by decide) (by decide) (by decide)
theorem two_ok {x y : R (List Int)} {l : List (List Int)} (h : two x y l = true) : ∃ c, x = .ok c ∧ y = .ok c ∧ c ∈ l := by
  unfold two at h
  cases x with
  | ok c =>
    dsimp only at h
    rw [Bool.and_eq_true, decide_eq_true_eq] at h
    exact ⟨c, rfl, h.2, by simpa using h.1⟩
  | er _ => cases h
  | out => cases h
structure Fd (F : O_Field) (ms : List (List Int)) (z o : List Int) : Prop where
  eq : ms = F.2.2.2.2.1
  len : ms.length = F.2.2.2.1.toNat
  q0 : 2 ≤ F.2.2.2.1
  q1 : F.2.2.2.1 < 10
  num : ∀ v : Int, 0 ≤ v → v < F.2.2.2.1 → m__law_member F.1 F.2.2.1 v = .ok (ms.getD v.toNat [])
  lz : m__law_zero F = .ok z
  fz : m_Field_zero F = .ok z
  lo : m__law_one F = .ok o
  ne : o ≠ z
  zm : z ∈ ms
  om : o ∈ ms
  mem : ∀ a ∈ ms, m_Field_is_member F a = .ok true
  tz : ∀ a ∈ ms, m__law_times F z a = .ok z
  az : m__law_add F z z = .ok z
  tt : ∀ a ∈ ms, ∀ b ∈ ms, ∃ c, m__law_times F a b = .ok c ∧ m_Field_multiply F a b = .ok c ∧ c ∈ ms
  ss : ∀ a ∈ ms, ∀ b ∈ ms, ∃ c, m__law_add F a b = .ok c ∧ m_Field_add F a b = .ok c ∧ c ∈ ms
theorem fd_of {F : O_Field} (h1 : chkM F = true) (h2 : chkT F = true) (h3 : chkS F = true) : Fd F F.2.2.2.2.1 (F.2.2.2.2.1.getD 0 []) (F.2.2.2.2.1.getD 1 []) := by
  unfold chkM at h1
  simp only [Bool.and_eq_true, decide_eq_true_eq, List.all_eq_true] at h1
  obtain ⟨⟨a1, a2, a3⟩, a4, a5, a6, a7, a8, a9, a10⟩ := h1
  unfold chkT at h2
  unfold chkS at h3
  simp only [List.all_eq_true] at h2 h3
  have gm : ∀ k : Nat, k < F.2.2.2.2.1.length → F.2.2.2.2.1.getD k [] ∈ F.2.2.2.2.1 := fun k hk => by
    rw [List.getD_eq_getElem?_getD, List.getElem?_eq_getElem hk]
    exact List.getElem_mem _
  exact ⟨rfl, a1, a2, a3, fun v v0 v1 => a4 v (mem_rng v0 (by omega)), a5, a6, a7, a8, gm 0 (by omega), gm 1 (by omega), fun a ha => (a9 a ha).1, fun a ha => (a9 a ha).2, a10, fun a ha b hb => two_ok (h2 a ha b hb), fun a ha b hb => two_ok (h3 a ha b hb)⟩
def getR (m : R (List Int)) : List Int := match m with
  | .ok c => c
  | _ => []
section
variable {F : O_Field} {ms : List (List Int)} {z o : List Int}
def St (F : O_Field) (a s x : List Int) : List Int := getR (m__law_add F (getR (m__law_times F s a)) x)
def Ho (F : O_Field) (z a : List Int) (l : List (List Int)) : List Int := l.foldl (St F a) z
theorem st_ok (h : Fd F ms z o) {a s x : List Int} (ha : a ∈ ms) (hs : s ∈ ms) (hx : x ∈ ms) : ∃ t, m__law_times F s a = .ok t ∧ m_Field_multiply F s a = .ok t ∧ m__law_add F t x = .ok (St F a s x) ∧ m_Field_add F t x = .ok (St F a s x) ∧ St F a s x ∈ ms := by
  obtain ⟨t, t1, t2, t3⟩ := h.tt s hs a ha
  obtain ⟨c, c1, c2, c3⟩ := h.ss t t3 x hx
  have e : St F a s x = c := by
    unfold St
    rw [t1]
    show getR (m__law_add F t x) = c
    rw [c1]; rfl
  rw [e]
  exact ⟨t, t1, t2, c1, c2, c3⟩
theorem fold_mem (h : Fd F ms z o) {a : List Int} (ha : a ∈ ms) : ∀ (l : List (List Int)) (s : List Int), s ∈ ms → (∀ x ∈ l, x ∈ ms) → l.foldl (St F a) s ∈ ms
  | [], s, hs, _ => hs
  | x :: l, s, hs, hl => fold_mem h ha l _ (st_ok h ha hs (hl x List.mem_cons_self)).choose_spec.2.2.2.2 fun y hy => hl y (List.mem_cons_of_mem _ hy)
theorem st_z (h : Fd F ms z o) {a : List Int} (ha : a ∈ ms) : St F a z z = z := by
  unfold St
  rw [h.tz a ha]
  show getR (m__law_add F z z) = z
  rw [h.az]; rfl
theorem fold_z (h : Fd F ms z o) {a : List Int} (ha : a ∈ ms) (l : List (List Int)) : ∀ k, Ho F z a (List.replicate k z ++ l) = Ho F z a l
  | 0 => rfl
  | k + 1 => by
    show (List.replicate k z ++ l).foldl (St F a) (St F a z z) = _
    rw [st_z h ha]
    exact fold_z h ha l k
theorem call_fold (h : Fd F ms z o) {a : List Int} (ha : a ∈ ms) (row' : List (List Int)) : ∀ (l : List (List Int)) (s : List Int), s ∈ ms → (∀ x ∈ l, x ∈ ms) → foldR (m_Poly___call___b1 (F, row') a) s l = .ok (l.foldl (St F a) s)
  | [], s, _, _ => rfl
  | x :: l, s, hs, hl => by
    obtain ⟨t, t1, t2, t3, t4, t5⟩ := st_ok h ha hs (hl x List.mem_cons_self)
    show (m_Poly___call___b1 (F, row') a s x).bind _ = _
    have e : m_Poly___call___b1 (F, row') a s x = .ok (St F a s x) := by
      unfold m_Poly___call___b1
      show ((m_Field_multiply F s a).bind _) = _
      rw [t2, R.bind_ok]
      show ((m_Field_add F t x).bind _) = _
      rw [t4]; rfl
    rw [e]
    exact call_fold h ha row' l _ t5 fun y hy => hl y (List.mem_cons_of_mem _ hy)
theorem call_ok (h : Fd F ms z o) {a : List Int} (ha : a ∈ ms) {row : List (List Int)} (hr : ∀ x ∈ row, x ∈ ms) : m_Poly___call__ (F, row) a = .ok (Ho F z a row.reverse) := by
  unfold m_Poly___call__
  show ((m_Field_zero F).bind _) = _
  rw [h.fz, R.bind_ok]
  show ((foldR (m_Poly___call___b1 (F, row) a) z row.reverse).bind _) = _
  rw [call_fold h ha row _ z h.zm fun x hx => hr x (List.mem_reverse.mp hx)]
  rfl
theorem foldR_ix {σ : Type} {f : σ → Int → R σ} (g : Nat → σ) : ∀ (n : Nat) (lo : Nat), (∀ i, lo ≤ i → i < lo + n → f (g i) (i : Int) = .ok (g (i + 1))) → foldR f (g lo) (rng (lo : Int) n) = .ok (g (lo + n))
  | 0, _, _ => rfl
  | n + 1, lo, h => by
    show (f (g lo) (lo : Int)).bind _ = _
    rw [h lo (by omega) (by omega), R.bind_ok]
    have e := foldR_ix g n (lo + 1) fun i h1 h2 => h i (by omega) (by omega)
    rw [show lo + (n + 1) = lo + 1 + n by omega]
    exact e
theorem getL_back {α : Type} {l : List α} {i : Nat} (hi : i < l.length) (d : α) : getL l ((-(1 : Int)) - (i : Int)) = .ok (l.reverse.getD i d) := by
  unfold Mir.getL L2.atI L2.ixN
  rw [if_neg (by omega), if_pos (by omega), Option.bind_some, List.getD_eq_getElem?_getD, List.getElem?_reverse hi]
  rw [show (-(1 : Int) - (i : Int) + (l.length : Int)).toNat = l.length - 1 - i by omega, List.getElem?_eq_getElem (show l.length - 1 - i < l.length by omega)]
  rfl
theorem value_ok (h : Fd F ms z o) {a : List Int} (ha : a ∈ ms) {row : List (List Int)} (hr : ∀ x ∈ row, x ∈ ms) (hl : row.length < 1000) : m__law_value F row a = .ok (Ho F z a row.reverse) := by
  have e := foldR_ix (f := m__law_value_b1 F row a) (fun i => Ho F z a (row.reverse.take i)) row.length 0 (fun i _ hi => by
    have hi : i < row.length := by omega
    have hm : Ho F z a (row.reverse.take i) ∈ ms := fold_mem h ha _ z h.zm fun x hx => hr x (List.mem_reverse.mp (List.mem_of_mem_take hx))
    have hx : row.reverse.getD i [] ∈ ms := by
      rw [List.getD_eq_getElem?_getD, List.getElem?_eq_getElem (show i < row.reverse.length by rw [List.length_reverse]; exact hi)]
      exact hr _ (List.mem_reverse.mp (List.getElem_mem _))
    obtain ⟨t, t1, t2, t3, t4, t5⟩ := st_ok h ha hm hx
    unfold m__law_value_b1
    rw [t1, R.bind_ok, getL_back hi [], R.bind_ok, t3, R.bind_ok]
    rw [List.take_succ, List.getElem?_eq_getElem (show i < row.reverse.length by rw [List.length_reverse]; exact hi)]
    unfold Ho
    rw [List.foldl_append, List.getD_eq_getElem?_getD, List.getElem?_eq_getElem (show i < row.reverse.length by rw [List.length_reverse]; exact hi)]
    rfl)
  unfold m__law_value
  rw [h.lz, R.bind_ok, grd_ok (show rgOk (row.length : Int) by unfold rgOk; omega), Int.toNat_natCast]
  rw [Nat.zero_add] at e
  have e' : foldR (m__law_value_b1 F row a) z (rng 0 row.length) = .ok (Ho F z a (row.reverse.take row.length)) := e
  rw [e', R.bind_ok, List.take_of_length_le (by rw [List.length_reverse]; exact Nat.le_refl _)]
end
section
variable {F : O_Field} {ms : List (List Int)} {z o : List Int}
theorem cutT_takeG {α : Type} (l : List α) (n : Nat) (h : n ≤ l.length) : cutT l none (some (n : Int)) = l.take n := by
  unfold cutT
  rw [HT.sIx_none, HT.sIx_nat, List.drop_zero, Nat.sub_zero, Nat.min_eq_left h]
theorem getL_at {α : Type} {l : List α} {i : Nat} (hi : i < l.length) (d : α) : getL l (i : Int) = .ok (l.getD i d) := by
  unfold Mir.getL L2.atI L2.ixN
  rw [if_pos (by omega), if_pos (by omega), Option.bind_some, Int.toNat_natCast, List.getD_eq_getElem?_getD, List.getElem?_eq_getElem hi]
  rfl
theorem end_ok (row : List (List Int)) (z : List Int) (hl : row.length < 1000) : ∃ k, k ≤ row.length ∧ m_without_end_2 row z = .ok (row.take k) ∧ row = row.take k ++ List.replicate (row.length - k) z ∧ (k = 0 → ∀ x ∈ row, x = z) := by
  obtain ⟨s, e, ⟨k, hk, hs, hz⟩, c⟩ := whileR_inv (c := m_without_end_2_b1 row z) (f := m_without_end_2_b2) (fun s : Int => ∃ k : Nat, k ≤ row.length ∧ s = k ∧ ∀ i, k ≤ i → i < row.length → row.getD i [] = z) (fun s => s.toNat) (fun s hs => by
    obtain ⟨k, hk, hs, hz⟩ := hs
    subst hs
    by_cases k0 : k = 0
    · right
      subst k0
      rfl
    · have g : getL row ((k : Int) - 1) = .ok (row.getD (k - 1) []) := by
        rw [show ((k : Int) - 1) = ((k - 1 : Nat) : Int) by omega]
        exact getL_at (by omega) []
      have e1 : m_without_end_2_b1 row z (k : Int) = .ok (decide (row.getD (k - 1) [] = z)) := by
        unfold m_without_end_2_b1
        rw [decide_eq_true (show (0 : Int) < (k : Int) by omega), g]
        rfl
      by_cases q : row.getD (k - 1) [] = z
      · refine .inl ⟨by rw [e1, decide_eq_true q], (k : Int) - 1, rfl, ⟨k - 1, by omega, by omega, fun i h1 h2 => ?_⟩, by omega⟩
        by_cases w : i = k - 1
        · rw [w]; exact q
        · exact hz i (by omega) h2
      · right
        rw [e1, decide_eq_false q]) 100000 (row.length : Int) ⟨row.length, Nat.le_refl _, rfl, fun i h1 h2 => absurd h2 (by omega)⟩ (by show (row.length : Int).toNat < 100000; omega)
  subst hs
  have sp : row = row.take k ++ List.replicate (row.length - k) z := by
    have d : row.drop k = List.replicate (row.length - k) z := by
      refine List.eq_replicate_iff.mpr ⟨List.length_drop .., fun x hx => ?_⟩
      obtain ⟨i, hi⟩ := List.getElem?_of_mem hx
      rw [List.getElem?_drop] at hi
      have hi2 : k + i < row.length := (List.getElem?_eq_some_iff.mp hi).1
      have := hz (k + i) (by omega) hi2
      rw [List.getD_eq_getElem?_getD, hi] at this
      exact this
    rw [← d]
    exact (List.take_append_drop k row).symm
  refine ⟨k, hk, ?_, sp, fun k0 x hx => ?_⟩
  · unfold m_without_end_2
    rw [e, R.bind_ok, cutT_takeG _ _ hk]
  · subst k0
    rw [List.take_zero, List.nil_append, Nat.sub_zero] at sp
    rw [sp] at hx
    exact (List.mem_replicate.mp hx).2
theorem fold_mapG {α β : Type} {f : List β → α → R (List β)} {g : α → β} : ∀ (xs : List α) (s : List β), (∀ s x, s.length < 1000 → x ∈ xs → f s x = .ok (s ++ [g x])) → s.length + xs.length ≤ 1000 → foldR f s xs = .ok (s ++ xs.map g)
  | [], s, _, _ => by rw [List.map_nil, List.append_nil]; rfl
  | x :: xs, s, h, l => by
    have l' : s.length + (xs.length + 1) ≤ 1000 := l
    show (f s x).bind _ = _
    rw [h s x (by omega) List.mem_cons_self, R.bind_ok, fold_mapG xs (s ++ [g x]) (fun s y hs hy => h s y hs (List.mem_cons_of_mem _ hy)) (by rw [List.length_append]; show s.length + 1 + xs.length ≤ 1000; omega), List.append_assoc]
    rfl
theorem init_ok (h : Fd F ms z o) {row : List (List Int)} (hr : ∀ x ∈ row, x ∈ ms) (hl : row.length < 1000) : ∃ k, k ≤ row.length ∧ m_Poly___init__ () F row = .ok (F, row.take k) ∧ row = row.take k ++ List.replicate (row.length - k) z ∧ (k = 0 → ∀ x ∈ row, x = z) := by
  obtain ⟨k, hk, e, sp, e0⟩ := end_ok row z hl
  refine ⟨k, hk, ?_, sp, e0⟩
  unfold m_Poly___init__
  rw [fold_mapG (f := m_Poly___init___b1 F) (g := fun _ => true) row [] (fun s x hs hx => by
    unfold m_Poly___init___b1
    rw [h.mem x (hr x hx)]
    show ((R.ok true).bind _) = _
    rw [R.bind_ok, grd_ok (lenLt_small (by omega))]) (by show 0 + row.length ≤ 1000; omega), R.bind_ok, if_neg (by simp), h.fz]
  show ((R.ok z).bind _) = _
  rw [R.bind_ok, e]
  rfl
/-- the list that both make -/
def Gt (F : O_Field) (z : List Int) (row : List (List Int)) (s : List (List Int)) (a : List Int) : R (List (List Int)) := if (decide (Ho F z a row.reverse = z)) = true then (grd (lenLt s) <| R.ok (s ++ [a])) else R.ok s
theorem gt_ok (row : List (List Int)) (xs : List (List Int)) (hx : xs.length < 100) : ∃ d, foldR (Gt F z row) [] xs = .ok d := by
  obtain ⟨d, e, _⟩ := foldR_cnt (f := Gt F z row) (fun k s => s.length ≤ k) xs 0 [] (fun k s x hk hs _ => by
    unfold Gt
    by_cases g : decide (Ho F z x row.reverse = z) = true
    · rw [if_pos g, grd_ok (lenLt_small (by omega))]
      exact ⟨_, rfl, by rw [List.length_append]; show s.length + 1 ≤ k + 1; omega⟩
    · rw [if_neg g]
      exact ⟨_, rfl, by omega⟩) (Nat.le_refl _)
  exact ⟨d, e⟩
theorem roots_ok (h : Fd F ms z o) {row : List (List Int)} (hr : ∀ x ∈ row, x ∈ ms) (hl : row.length < 1000) (nz : ¬∀ x ∈ row, x = z) : ∃ f, m_Poly___init__ () F row = .ok f ∧ m_roots f = foldR (Gt F z row) [] ms := by
  obtain ⟨k, hk, e, sp, e0⟩ := init_ok h hr hl
  refine ⟨_, e, ?_⟩
  have k1 : k ≠ 0 := fun q => nz (e0 q)
  have hrk : ∀ x ∈ row.take k, x ∈ ms := fun x hx => hr x (List.mem_of_mem_take hx)
  have H : ∀ a ∈ ms, Ho F z a (row.take k).reverse = Ho F z a row.reverse := fun a ha => by
    conv => rhs; rw [sp, List.reverse_append, List.reverse_replicate]
    exact (fold_z h ha _ _).symm
  unfold m_roots m_Poly_is_zero
  show ((R.ok (decide (((row.take k).length : Int) = 0))).bind _) = _
  have hlen : (row.take k).length = k := by rw [List.length_take]; omega
  rw [hlen, R.bind_ok, if_neg (fun q => by have := of_decide_eq_true q; omega)]
  show ((foldR (m_roots_b1 (F, row.take k)) [] F.2.2.2.2.1).bind fun s24 => R.ok s24) = _
  rw [← h.eq, foldR_congr (g := Gt F z row) ms [] (fun s a ha => by
    unfold m_roots_b1
    rw [call_ok h ha hrk]
    show ((R.ok (Ho F z a (row.take k).reverse)).bind _) = _
    rw [R.bind_ok]
    show ((noEr (m_Field_zero F)).bind _) = _
    rw [h.fz]
    show ((R.ok z).bind _) = _
    rw [R.bind_ok, H a ha]
    rfl)]
  cases foldR (Gt F z row) [] ms <;> rfl
theorem foldR_mapI {α β σ : Type} {f : σ → β → R σ} (g : α → β) : ∀ (xs : List α) (s : σ), foldR (fun s x => f s (g x)) s xs = foldR f s (xs.map g)
  | [], s => rfl
  | x :: xs, s => by
    show (f s (g x)).bind _ = (f s (g x)).bind _
    congr 1
    funext s'
    exact foldR_mapI g xs s'
theorem map_all {α : Type} (d : α) (a : List α) : ∀ (xs : List α) (lo : Nat), (∀ k, k < xs.length → a.getD (lo + k) d = xs.getD k d) → (rng (lo : Int) xs.length).map (fun i => a.getD i.toNat d) = xs
  | [], _, _ => rfl
  | x :: xs, lo, h => by
    show (a.getD (lo : Int).toNat d) :: (rng ((lo : Int) + 1) xs.length).map (fun i => a.getD i.toNat d) = x :: xs
    rw [Int.toNat_natCast]
    have h0 := h 0 (by show 0 < xs.length + 1; omega)
    rw [Nat.add_zero] at h0
    rw [h0, show ((lo : Int) + 1) = ((lo + 1 : Nat) : Int) by omega, map_all d a xs (lo + 1) fun k hk => by
      have := h (k + 1) (by show k + 1 < xs.length + 1; omega)
      rw [show lo + 1 + k = lo + (k + 1) by omega, this]
      rfl]
    rfl
theorem due_ok (h : Fd F ms z o) {row : List (List Int)} (hr : ∀ x ∈ row, x ∈ ms) (hl : row.length < 1000) (t : List Int) : foldR (m_law_b3 (F, t) row) [] (rng 0 F.2.2.2.1.toNat) = foldR (Gt F z row) [] ms := by
  have q0 := h.q0
  have hm : (rng 0 F.2.2.2.1.toNat).map (fun i => ms.getD i.toNat []) = ms := by
    rw [← h.len]
    exact map_all [] ms ms 0 fun k _ => by rw [Nat.zero_add]
  rw [foldR_congr (g := fun s v => Gt F z row s (ms.getD v.toNat [])) (rng 0 F.2.2.2.1.toNat) [] (fun s v hv => by
    obtain ⟨v0, v1⟩ := rng_mem hv
    have hv : ms.getD v.toNat [] ∈ ms := by
      rw [List.getD_eq_getElem?_getD, List.getElem?_eq_getElem (show v.toNat < ms.length by rw [h.len]; omega)]
      exact List.getElem_mem _
    unfold m_law_b3
    show ((m__law_member F.1 F.2.2.1 v).bind _) = _
    rw [h.num v v0 (by omega), R.bind_ok]
    show ((m__law_value F row (ms.getD v.toNat [])).bind _) = _
    rw [value_ok h hv hr hl, R.bind_ok]
    show ((m__law_zero F).bind _) = _
    rw [h.lz]
    rfl), foldR_mapI (f := Gt F z row), hm]
end
theorem filt_ok {F : O_Field} {ms : List (List Int)} {z o : List Int} (h : Fd F ms z o) (t : List Int) : ∀ (xs d : List (List Int)), d.length + xs.length < 1000 → foldR (m_law_b2 (F, t)) d xs = .ok (d ++ xs.filter fun x => !decide (x = z))
  | [], d, _ => by rw [List.filter_nil, List.append_nil]; rfl
  | x :: xs, d, l => by
    have l' : d.length + (xs.length + 1) < 1000 := l
    show (m_law_b2 (F, t) d x).bind _ = _
    have e : m_law_b2 (F, t) d x = .ok (if (!decide (x = z)) = true then d ++ [x] else d) := by
      unfold m_law_b2
      show ((m__law_zero F).bind _) = _
      rw [h.lz, R.bind_ok]
      by_cases q : x = z
      · rw [if_neg (by simp [q]), if_neg (by simp [q])]
      · rw [if_pos (by simp [q]), if_pos (by simp [q]), grd_ok (lenLt_small (by omega))]
    rw [e, R.bind_ok, List.filter_cons]
    by_cases q : (!decide (x = z)) = true
    · rw [if_pos q, if_pos q, filt_ok h t xs (d ++ [x]) (by rw [List.length_append]; show d.length + 1 + xs.length < 1000; omega), List.append_assoc]
      rfl
    · rw [if_neg q, if_neg q, filt_ok h t xs d (by omega)]
theorem tail_ok {F : O_Field} {ms : List (List Int)} {z o : List Int} (h : Fd F ms z o) (t : List Int) {row : List (List Int)} (hr : ∀ x ∈ row, x ∈ ms) (hl : row.length < 1000) (nz : ¬∀ x ∈ row, x = z) :
    ((grd (rgOk F.2.2.2.1) <| foldR (m_law_b3 (F, t) row) ([] : List (List Int)) (rng 0 (F.2.2.2.1).toNat)).bind fun s144 => (m_Poly___init__ () F row).bind fun t200 => (m_roots t200).bind fun t204 => if (!decide (t204 = s144)) = true then (R.ok false) else ((tryR ((m_Poly___init__ () F ([] : List (List Int))).bind fun t245 => (m_roots t245).bind fun t249 => R.ok (Le.rt false)) (fun e => Er.on e (R.ok (Le.rt true)) (R.er (.mal)) (fun r => R.er (.refu r)) (fun i => R.er (.nt i)))).bind fun o => Le.thn o (fun (_ : Unit) => R.out) (fun r => R.ok r))) = .ok true := by
  have q0 := h.q0
  have q1 := h.q1
  obtain ⟨d, ed⟩ := gt_ok (F := F) (z := z) row ms (by rw [h.len]; omega)
  obtain ⟨f, ef, er⟩ := roots_ok h hr hl nz
  obtain ⟨k, hk, e0, _, _⟩ := init_ok h (row := []) (fun x hx => absurd hx (by simp)) (by decide)
  rw [List.take_nil] at e0
  rw [grd_ok (show rgOk F.2.2.2.1 by unfold rgOk; omega), due_ok h hr hl, ed, R.bind_ok, ef, R.bind_ok, er, ed, R.bind_ok, if_neg (by simp), e0, R.bind_ok]
  rfl
theorem law_true : ∀ ns : List Int, ns.length ≤ 63 → m_law ns = R.ok true := by
  intro ns hn
  obtain ⟨t, e, g⟩ := numbers_ok ns hn
  obtain ⟨p, n, r, t2, hc, hr, g2, ef⟩ := field_ok t g
  obtain ⟨tx, eF⟩ := isF_ok (each_ok all_F hc hr)
  have h := fd_of (all_chkM tx hc hr) (all_chkT tx hc hr) (all_chkS tx hc hr)
  generalize toF (lit p n r) tx = F at eF h
  generalize F.2.2.2.2.1.getD 0 [] = z at h
  generalize F.2.2.2.2.1.getD 1 [] = o at h
  have q0 := h.q0
  have q1 := h.q1
  obtain ⟨k, t3, e3, g3, k0, k1⟩ := next_ok t2 5 g2 (by decide)
  obtain ⟨s, e4, i1, i2, i3⟩ := foldR_cnt (f := m_law_b1 (F, t2)) (fun k s => s.1.length = k ∧ (∀ x ∈ s.1, x ∈ F.2.2.2.2.1) ∧ Good s.2) (rng 0 ((1 : Int) + k).toNat) 0 (([] : List (List Int)), t3) (fun j s x hj ⟨h1, h2, h3⟩ _ => by
    rw [rng_length] at hj
    obtain ⟨v, t', e, g', v0, v1⟩ := next_ok s.2 F.2.2.2.1 h3 (by omega)
    have hv : F.2.2.2.2.1.getD v.toNat [] ∈ F.2.2.2.2.1 := by
      rw [List.getD_eq_getElem?_getD, List.getElem?_eq_getElem (show v.toNat < F.2.2.2.2.1.length by rw [h.len]; omega)]
      exact List.getElem_mem _
    refine ⟨(s.1 ++ [F.2.2.2.2.1.getD v.toNat []], t'), ?_, by rw [List.length_append, h1]; rfl, fun y hy => ?_, g'⟩
    · unfold m_law_b1
      show ((m__law_next s.2 F.2.2.2.1).bind _) = _
      rw [e, R.bind_ok]
      show ((m__law_member F.1 F.2.2.1 v).bind _) = _
      rw [h.num v v0 v1, R.bind_ok, grd_ok (lenLt_small (by omega))]
    · rcases List.mem_append.mp hy with q | q
      · exact h2 y q
      · rw [List.mem_singleton.mp q]; exact hv) ⟨rfl, fun x hx => absurd hx (by simp), g3⟩
  rw [rng_length] at i1
  have hl : s.1.length < 100 := by omega
  unfold m_law
  rw [e, R.bind_ok, ef, eF]
  show ((m__law_next t2 5).bind _) = _
  rw [e3, R.bind_ok]
  show (grd (rgOk ((1 : Int) + k)) _) = _
  rw [grd_ok (show rgOk ((1 : Int) + k) by unfold rgOk; omega)]
  show ((foldR (m_law_b1 (F, t2)) (([] : List (List Int)), t3) (rng 0 ((1 : Int) + k).toNat)).bind _) = _
  rw [e4, R.bind_ok, filt_ok h t2 s.1 [] (by show 0 + _ < 1000; omega), R.bind_ok, List.nil_append]
  by_cases nz : ∀ x ∈ s.1, x = z
  · have e0 : s.1.filter (fun x => !decide (x = z)) = [] := List.filter_eq_nil_iff.mpr fun x hx => by simp [nz x hx]
    rw [e0, if_pos (by decide)]
    show (((m__law_one F).bind _).bind _) = _
    rw [h.lo, R.bind_ok, grd_ok (show lenOk (s.1 ++ [o]) from Nat.le_of_lt (lenLt_small (by rw [List.length_append]; show s.1.length + 1 ≤ 100000; omega))), R.bind_ok]
    exact tail_ok h t2 (fun x hx => by
      rcases List.mem_append.mp hx with q | q
      · exact i2 x q
      · rw [List.mem_singleton.mp q]; exact h.om) (by rw [List.length_append]; show s.1.length + 1 < 1000; omega) fun q => h.ne (q o (by simp))
  · have e0 : ¬ (((s.1.filter (fun x => !decide (x = z))).length : Nat) : Int) = 0 := fun q => nz fun x hx => by
      have q : s.1.filter (fun x => !decide (x = z)) = [] := List.length_eq_zero_iff.mp (by omega)
      have := List.filter_eq_nil_iff.mp q x hx
      simpa using this
    rw [if_neg (fun q => e0 (of_decide_eq_true q)), R.bind_ok]
    exact tail_ok h t2 i2 (by omega) nz
end Pf

open PySem PySem.W PyProof.Rows
set_option maxRecDepth 100000 in
set_option maxHeartbeats 0 in
theorem PySem.Challenge.cw_fieldmaps_k19_roots_holds : PySem.Challenge.rw_fieldmaps_k19_roots.Holds := by
  w_on; o_law; k_head; (case hw => w_witness2)
  k_fill
  refine LamX.walk_ofTs (l := PySem.Challenge.rw_fieldmaps_k19_roots) (n := 63) (k := 12) (x := "script") (CX := fun _ => L2.CX0) rfl (by decide) rfl ⟨rfl, by decide, by decide⟩ (fun w h Y => km_in_of Y) ?F (fun _ _ _ _ _ h => h)
  case F =>
    intro w mg fa h Y KX G hmg
    refine' Pf.all_mk KX G hmg ?a1 ?l1 ?c1 ?k1 ?a2 ?l2 ?c2 ?k2 ?a3 ?l3 ?c3 ?k3 ?a4 ?l4 ?c4 ?k4 ?a5 ?l5 ?c5 ?k5 ?a6 ?l6 ?c6 ?k6 ?a7 ?l7 ?c7 ?k7 ?a8 ?l8 ?c8 ?k8 ?a9 ?l9 ?c9 ?k9 ?a10 ?l10 ?c10 ?k10 ?a11 ?l11 ?c11 ?k11 ?a12 ?l12 ?c12 ?k12 ?a13 ?l13 ?c13 ?k13 ?a14 ?l14 ?c14 ?k14 ?a15 ?l15 ?c15 ?k15 ?a16 ?l16 ?c16 ?k16 ?a17 ?l17 ?c17 ?k17 ?a18 ?l18 ?c18 ?k18 ?a19 ?l19 ?c19 ?k19 ?a20 ?l20 ?c20 ?k20 ?a21 ?l21 ?c21 ?k21 ?a22 ?l22 ?c22 ?k22 ?a23 ?l23 ?c23 ?k23 ?a24 ?l24 ?c24 ?k24 ?a25 ?l25 ?c25 ?k25 ?a26 ?l26 ?c26 ?k26 ?a27 ?l27 ?c27 ?k27 ?a28 ?i28 ?l28 ?c28 ?k28 ?a29 ?i29 ?l29 ?c29 ?k29 ?d29 ?a30 ?l30 ?c30 ?k30 ?a31 ?l31 ?c31 ?k31 ?a32 ?l32 ?c32 ?k32 ?a33 ?l33 ?c33 ?k33 ?a34 ?l34 ?c34 ?k34 ?a35 ?l35 ?c35 ?k35 ?a36 ?i36 ?l36 ?c36 ?k36 ?a37 ?i37 ?l37 ?c37 ?k37 ?a38 ?i38 ?l38 ?c38 ?k38 ?a39 ?i39 ?l39 ?c39 ?k39 ?a40 ?i40 ?l40 ?c40 ?k40 ?a41 ?i41 ?l41 ?c41 ?k41 ?a42 ?i42 ?l42 ?c42 ?k42 ?a43 ?l43 ?c43 ?k43 ?a44 ?l44 ?c44 ?k44 ?aG0 ?iG0 ?lG0 ?cG0 ?kG0 ?z_len ?z_min ?z_range ?z_abs ?z_tuple ?z_sum ?z_isinstance ?z_int ?z_bool ?z_list ?z_reversed ?z_enumerate ?z_max ?z_zip ?z_all ?gn_fault ?gn_zd ?gn_mal ?gn_refu ?gn_Field ?mk_Field ?kp_Field ?gn_Poly ?mk_Poly ?kp_Poly ?xx_zd ?xk_zd ?xb_zd ?xt_zd ?xx_mal ?xk_mal ?xb_mal ?xt_mal ?gg_MOST_MEMBERS ?pg_Field ?hd_Field ?po_Field ?sa_Field ?na_Field_n ?na_Field_p ?na_Field_modulus ?na_Field_q ?na_Field__members ?na_Field__powers ?na_Field__logarithms ?na_Field__texts ?pg_Poly ?hd_Poly ?po_Poly ?sa_Poly ?na_Poly_field ?na_Poly_row ?ed_zd ?ss_zd_zd ?q16 ?p16 ?h16 ?u16 ?v16 ?hmath
    (case gn_fault => k_is); (case gn_zd => k_is); (case gn_mal => k_is); (case gn_refu => k_is); (case gn_Field => k_is); (case gn_Poly => k_is); (case a1 => k_is); (case l1 => k_is); (case c1 => k_is); (case k1 => k_is); (case a2 => k_is); (case l2 => k_is); (case c2 => k_is); (case k2 => k_is); (case a3 => k_is); (case l3 => k_is); (case c3 => k_is); (case k3 => k_is); (case a4 => k_is); (case l4 => k_is); (case c4 => k_is); (case k4 => k_is); (case a5 => k_is); (case l5 => k_is); (case c5 => k_is); (case k5 => k_is); (case a6 => k_is); (case l6 => k_is); (case c6 => k_is); (case k6 => k_is); (case a7 => k_is); (case l7 => k_is); (case c7 => k_is); (case k7 => k_is); (case a8 => k_is); (case l8 => k_is); (case c8 => k_is); (case k8 => k_is); (case a9 => k_is); (case l9 => k_is); (case c9 => k_is); (case k9 => k_is); (case a10 => k_is); (case l10 => k_is); (case c10 => k_is); (case k10 => k_is); (case a11 => k_is); (case l11 => k_is); (case c11 => k_is); (case k11 => k_is); (case a12 => k_is); (case l12 => k_is); (case c12 => k_is); (case k12 => k_is); (case a13 => k_is); (case l13 => k_is); (case c13 => k_is); (case k13 => k_is); (case a14 => k_is); (case l14 => k_is); (case c14 => k_is); (case k14 => k_is); (case a15 => k_is); (case l15 => k_is); (case c15 => k_is); (case k15 => k_is); (case a16 => k_is); (case l16 => k_is); (case c16 => k_is); (case k16 => k_is); (case a17 => k_is); (case l17 => k_is); (case c17 => k_is); (case k17 => k_is); (case a18 => k_is); (case l18 => k_is); (case c18 => k_is); (case k18 => k_is); (case a19 => k_is); (case l19 => k_is); (case c19 => k_is); (case k19 => k_is); (case a20 => k_is); (case l20 => k_is); (case c20 => k_is); (case k20 => k_is); (case a21 => k_is); (case l21 => k_is); (case c21 => k_is); (case k21 => k_is); (case a22 => k_is); (case l22 => k_is); (case c22 => k_is); (case k22 => k_is); (case a23 => k_is); (case l23 => k_is); (case c23 => k_is); (case k23 => k_is); (case a24 => k_is); (case l24 => k_is); (case c24 => k_is); (case k24 => k_is); (case a25 => k_is); (case l25 => k_is); (case c25 => k_is); (case k25 => k_is); (case a26 => k_is); (case l26 => k_is); (case c26 => k_is); (case k26 => k_is); (case a27 => k_is); (case l27 => k_is); (case c27 => k_is); (case k27 => k_is); (case a28 => k_is); (case i28 => k_is); (case l28 => k_is); (case c28 => k_is); (case k28 => k_is); (case a29 => k_is); (case i29 => k_is); (case l29 => k_is); (case c29 => k_is); (case k29 => k_is); (case d29 => k_is); (case a30 => k_is); (case l30 => k_is); (case c30 => k_is); (case k30 => k_is); (case a31 => k_is); (case l31 => k_is); (case c31 => k_is); (case k31 => k_is); (case a32 => k_is); (case l32 => k_is); (case c32 => k_is); (case k32 => k_is); (case a33 => k_is); (case l33 => k_is); (case c33 => k_is); (case k33 => k_is); (case a34 => k_is); (case l34 => k_is); (case c34 => k_is); (case k34 => k_is); (case a35 => k_is); (case l35 => k_is); (case c35 => k_is); (case k35 => k_is); (case a36 => k_is); (case i36 => k_is); (case l36 => k_is); (case c36 => k_is); (case k36 => k_is); (case a37 => k_is); (case i37 => k_is); (case l37 => k_is); (case c37 => k_is); (case k37 => k_is); (case a38 => k_is); (case i38 => k_is); (case l38 => k_is); (case c38 => k_is); (case k38 => k_is); (case a39 => k_is); (case i39 => k_is); (case l39 => k_is); (case c39 => k_is); (case k39 => k_is); (case a40 => k_is); (case i40 => k_is); (case l40 => k_is); (case c40 => k_is); (case k40 => k_is); (case a41 => k_is); (case i41 => k_is); (case l41 => k_is); (case c41 => k_is); (case k41 => k_is); (case a42 => k_is); (case i42 => k_is); (case l42 => k_is); (case c42 => k_is); (case k42 => k_is); (case a43 => k_is); (case l43 => k_is); (case c43 => k_is); (case k43 => k_is); (case a44 => k_is); (case l44 => k_is); (case c44 => k_is); (case k44 => k_is); (case aG0 => k_is); (case iG0 => k_is); (case lG0 => k_is); (case cG0 => k_is); (case kG0 => k_is); (case z_len => k_is); (case z_min => k_is); (case z_range => k_is); (case z_abs => k_is); (case z_tuple => k_is); (case z_sum => k_is); (case z_isinstance => k_is); (case z_int => k_is); (case z_bool => k_is); (case z_list => k_is); (case z_reversed => k_is); (case z_enumerate => k_is); (case z_max => k_is); (case z_zip => k_is); (case z_all => k_is); (case mk_Field => k_is); (case kp_Field => k_is); (case mk_Poly => k_is); (case kp_Poly => k_is); (case xx_zd => k_exc); (case xk_zd => k_is); (case xb_zd => k_is); (case xt_zd => k_is); (case xx_mal => k_exc); (case xk_mal => k_is); (case xb_mal => k_is); (case xt_mal => k_is); (case gg_MOST_MEMBERS => k_is); (case pg_Field => k_is); (case hd_Field => k_is); (case po_Field => k_is); (case sa_Field => k_is); (case na_Field_n => k_is); (case na_Field_p => k_is); (case na_Field_modulus => k_is); (case na_Field_q => k_is); (case na_Field__members => k_is); (case na_Field__powers => k_is); (case na_Field__logarithms => k_is); (case na_Field__texts => k_is); (case pg_Poly => k_is); (case hd_Poly => k_is); (case po_Poly => k_is); (case sa_Poly => k_is); (case na_Poly_field => k_is); (case na_Poly_row => k_is); (case ed_zd => k_is); (case ss_zd_zd => k_is); (case q16 => k_is); (case p16 => rfl); (case h16 => kernel_rfl); (case u16 => kernel_rfl); (case v16 => exact km_tabs_of Y _ (by k_mem)); (case hmath => exact Pf.law_true)
