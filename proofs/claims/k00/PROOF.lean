import PyProof.Rows.All
import Wide.All
import OpenK.AllK
import Wide.FinOn
import HandS.Lambda
import HandS.Nested
import HandS.ForMost
import HandS.ForExc
import HandS.Style
import HandS.Gcd
import HandS.IsInst
import HandS.Wide
import HandS.SortInts
import HandS.ExcIs
import HandS.TryMany
import HandS.ExcField
import HandS.Walk
import HandS.Zip
import HandS.TupMul
import HandS.TupAny
import HandS.RevRange
import KE.GoesMore
import KE.KNestM
import KE.KLam
import HandS.EndTab
import PySem.Challenge.RW_fieldmaps_k00_whole_numbers
set_option Elab.async false
set_option linter.all false
set_option maxRecDepth 100000
namespace Mir
open PySem PySem.Spec PyProof.Rows L2

/-! ### results of the mirrors -/
inductive Er where
  | zd | mal | refu (r : Str) | nt (i : Int)
  deriving DecidableEq
inductive R (α : Type) where
  | ok (a : α) | er (e : Er) | out
  deriving DecidableEq
@[inline] def R.bind {α β : Type} (m : R α) (f : α → R β) : R β := match m with
  | .ok a => f a
  | .er e => .er e
  | .out => .out
@[simp] theorem R.bind_ok {α β : Type} (a : α) (f : α → R β) : (R.ok a).bind f = f a := rfl
@[simp] theorem R.bind_er {α β : Type} (e : Er) (f : α → R β) : (R.er e : R α).bind f = .er e := rfl
@[simp] theorem R.bind_out {α β : Type} (f : α → R β) : (R.out : R α).bind f = .out := rfl
/-- where a test does not hold, nothing is said -/
@[irreducible] def grd (c : Prop) [Decidable c] {α : Type} (m : R α) : R α := if c then m else .out
def wp {α : Type} (m : R α) (P : α → Prop) (E : Er → Prop) : Prop := match m with
  | .ok a => P a
  | .er e => E e
  | .out => False
section
variable {α β : Type} {P : α → Prop} {Q : β → Prop} {E : Er → Prop}
theorem wp_bind {m : R α} {f : α → R β} (h : wp (m.bind f) Q E) : wp m (fun a => wp (f a) Q E) E := by
  cases m <;> exact h
theorem wp_bind' {m : R α} {f : α → R β} (h : wp m (fun a => wp (f a) Q E) E) : wp (m.bind f) Q E := by
  cases m <;> exact h
theorem wp_imp {m : R α} {P' : α → Prop} {E' : Er → Prop} (h : wp m P E) (k : ∀ a, P a → P' a) (e : ∀ x, E x → E' x) : wp m P' E' := by
  cases m with
  | ok a => exact k a h
  | er x => exact e x h
  | out => exact h
theorem wp_grd {c : Prop} [Decidable c] {m : R α} (h : wp (grd c m) P E) : c ∧ wp m P E := by
  unfold grd at h
  by_cases hc : c
  · rw [if_pos hc] at h
    exact ⟨hc, h⟩
  · rw [if_neg hc] at h
    exact h.elim
theorem wp_ite {c : Prop} [Decidable c] {m n : R α} (h : wp (if c then m else n) P E) : (c → wp m P E) ∧ (¬ c → wp n P E) :=
  ⟨fun hc => by rw [if_pos hc] at h; exact h, fun hc => by rw [if_neg hc] at h; exact h⟩
end
/-! ### loops -/
def foldR {σ α : Type} (f : σ → α → R σ) : σ → List α → R σ
  | s, [] => .ok s
  | s, x :: xs => (f s x).bind fun s' => foldR f s' xs
/-- a turn's end -/
inductive Lp (σ ρ : Type) where
  | nx (s : σ) | bk (s : σ) | rt (r : ρ)
  deriving DecidableEq
inductive Le (σ ρ : Type) where
  | dn (s : σ) | rt (r : ρ)
  deriving DecidableEq
def loopR {σ ρ α : Type} (f : σ → α → R (Lp σ ρ)) : σ → List α → R (Le σ ρ)
  | s, [] => .ok (.dn s)
  | s, x :: xs => (f s x).bind fun o => match o with
    | .nx s' => loopR f s' xs
    | .bk s' => .ok (.dn s')
    | .rt r => .ok (.rt r)
def whileR {σ : Type} (c : σ → R Bool) (f : σ → R σ) : Nat → σ → R σ
  | 0, _ => .out
  | n + 1, s => (c s).bind fun b => if b = true then (f s).bind fun s' => whileR c f n s' else .ok s
def whileL {σ ρ : Type} (c : σ → R Bool) (f : σ → R (Lp σ ρ)) : Nat → σ → R (Le σ ρ)
  | 0, _ => .out
  | n + 1, s => (c s).bind fun b => if b = true then (f s).bind fun o => match o with
    | .nx s' => whileL c f n s'
    | .bk s' => .ok (.dn s')
    | .rt r => .ok (.rt r) else .ok (.dn s)
/-- behind a loop that may be left by return -/
def Le.thn {σ ρ τ : Type} (o : Le σ ρ) (k : σ → R τ) (ret : ρ → R τ) : R τ := match o with
  | .dn s => k s
  | .rt r => ret r
/-- what is wanted behind a turn -/
def lpP {σ ρ : Type} (nx bk : σ → Prop) (rt : ρ → Prop) : Lp σ ρ → Prop
  | .nx s => nx s
  | .bk s => bk s
  | .rt r => rt r
def leP {σ ρ : Type} (dn : σ → Prop) (rt : ρ → Prop) : Le σ ρ → Prop
  | .dn s => dn s
  | .rt r => rt r
/-- the ints lo, lo + 1, .. -/
def rng (lo : Int) : Nat → List Int
  | 0 => []
  | n + 1 => lo :: rng (lo + 1) n
theorem rng_length (lo : Int) (n : Nat) : (rng lo n).length = n := by
  induction n generalizing lo with
  | zero => rfl
  | succ n ih => exact congrArg Nat.succ (ih (lo + 1))
theorem rng_drop (lo : Int) (n i : Nat) (h : i < n) : (rng lo n).drop i = (lo + i) :: (rng lo n).drop (i + 1) := by
  induction n generalizing lo i with
  | zero => omega
  | succ n ih =>
    cases i with
    | zero =>
      show lo :: rng (lo + 1) n = (lo + ((0 : Nat) : Int)) :: rng (lo + 1) n
      rw [show lo + ((0 : Nat) : Int) = lo by omega]
    | succ i =>
      have := ih (lo + 1) i (by omega)
      show (rng (lo + 1) n).drop i = (lo + ((i + 1 : Nat) : Int)) :: (rng (lo + 1) n).drop (i + 1)
      rw [this]
      rw [show lo + 1 + (i : Int) = lo + ((i + 1 : Nat) : Int) by omega]

/-! ### ints -/
def pabs (i : Int) : Int := if i < 0 then -i else i
/-! ### heaps -/
/-- how the lambdas of a program are called, by their places; which attributes are the last that a class gives its objects -/
class Nm where
  nm : Nat → Nat → Str
  last : Str → Bool
variable [Nm]
open Classical in
/-- the kinds of objects that change; an instance changes till it has its last attribute -/
noncomputable def kd : HO → Nat
  | .lst _ => 1
  | .dK _ => 2
  | .dT _ => 3
  | .set _ _ => 4
  | .tbl _ => 9
  | .ext φ => if (∃ c q, HO.ext φ = LamX.CodeO c q) then 0 else 6
  | .ins _ _ fs => match fs.getLast? with
    | some (f, _) => if Nm.last f then 0 else 5
    | none => 5
  | _ => 0
theorem kd_code {c : Addr} {q : Str} : kd (LamX.CodeO c q) = 0 := by
  unfold kd LamX.CodeO
  exact if_pos ⟨c, q, rfl⟩
/-- all is as it was, but what changes at A; that is still of its kind -/
structure Gr (A : List Addr) (H H' : Hp) : Prop where
  ob : ∀ b o, H b = some o → ∃ o', H' b = some o' ∧ (o' = o ∨ (b ∈ A ∧ kd o ≠ 0 ∧ kd o' = kd o) ∨ (kd o = 9 ∧ kd o' = 9))
  tb : ∀ P, NdefX.TabN H P Nm.nm → NdefX.TabN H' P Nm.nm
theorem Gr.to {A : List Addr} {H H' : Hp} {b : Addr} {o : HO} (g : Gr A H H') (h : H b = some o) (n : b ∈ A → kd o = 0) (t : kd o ≠ 9) : H' b = some o := by
  obtain ⟨o', h1, h2⟩ := g.ob b o h
  rcases h2 with rfl | ⟨m, k, _⟩ | ⟨k, _⟩
  · exact h1
  · exact absurd (n m) k
  · exact absurd k t
theorem Gr.refl {A : List Addr} (H : Hp) : Gr A H H := ⟨fun _ o h => ⟨o, h, .inl rfl⟩, fun _ h => h⟩
theorem gr_two {A A0 : List Addr} {c : Addr} {o o1 o2 : HO} (n : c ∈ A → c ∈ A0) (e1 : o1 = o ∨ (c ∈ A0 ∧ kd o ≠ 0 ∧ kd o1 = kd o) ∨ (kd o = 9 ∧ kd o1 = 9)) (e2 : o2 = o1 ∨ (c ∈ A ∧ kd o1 ≠ 0 ∧ kd o2 = kd o1) ∨ (kd o1 = 9 ∧ kd o2 = 9)) : o2 = o ∨ (c ∈ A0 ∧ kd o ≠ 0 ∧ kd o2 = kd o) ∨ (kd o = 9 ∧ kd o2 = 9) := by
  rcases e1 with rfl | ⟨m, k, q⟩ | ⟨k, q⟩
  · rcases e2 with rfl | ⟨m, k, q⟩ | z
    · exact .inl rfl
    · exact .inr (.inl ⟨n m, k, q⟩)
    · exact .inr (.inr z)
  · rcases e2 with rfl | ⟨_, _, q2⟩ | ⟨k1, k2⟩
    · exact .inr (.inl ⟨m, k, q⟩)
    · exact .inr (.inl ⟨m, k, q2.trans q⟩)
    · exact .inr (.inr ⟨q.symm.trans k1, k2⟩)
  · rcases e2 with rfl | ⟨_, _, q2⟩ | ⟨_, k2⟩
    · exact .inr (.inr ⟨k, q⟩)
    · exact .inr (.inr ⟨k, q2.trans q⟩)
    · exact .inr (.inr ⟨k, k2⟩)
theorem Gr.trans {A : List Addr} {H H1 H2 : Hp} (a : Gr A H H1) (b : Gr A H1 H2) : Gr A H H2 := ⟨fun c o h => by
  obtain ⟨o1, h1, e1⟩ := a.ob c o h
  obtain ⟨o2, h2, e2⟩ := b.ob c o1 h1
  exact ⟨o2, h2, gr_two id e1 e2⟩, fun P h => b.tb P (a.tb P h)⟩
theorem Gr.same {H H1 : Hp} (a : Same H H1) : Gr [] H H1 := ⟨fun c o h => ⟨o, a c o h, .inl rfl⟩, fun _ h => h.ext a⟩
theorem Gr.mono {A B : List Addr} {H H1 : Hp} (a : Gr A H H1) (s : ∀ x ∈ A, x ∈ B) : Gr B H H1 := ⟨fun c o h =>
  let ⟨o', h1, h2⟩ := a.ob c o h
  ⟨o', h1, h2.imp id fun z => z.imp (fun ⟨m, k⟩ => ⟨s c m, k⟩) id⟩, a.tb⟩
theorem Gr.of0 {B : List Addr} {H H1 : Hp} (a : Gr [] H H1) : Gr B H H1 := a.mono fun _ z => absurd z (by simp)
theorem Gr.of0' {B : List Addr} {H H1 H2 : Hp} (a : Gr B H H1) (b : Gr [] H1 H2) : Gr B H H2 := a.trans b.of0
/-- some changed objects at once; those that are new since H don't count -/
theorem Gr.many {A A0 : List Addr} {H0 H H' : Hp} (a : Gr A0 H0 H) (n : ∀ p ∈ A, p ∈ A0 ∨ H0 p = none) (b : Gr A H H') : Gr A0 H0 H' := ⟨fun c o h => by
  obtain ⟨o1, h1, e1⟩ := a.ob c o h
  obtain ⟨o2, h2, e2⟩ := b.ob c o1 h1
  exact ⟨o2, h2, gr_two (fun m => (n c m).elim id fun z => by
      rw [z] at h
      cases h) e1 e2⟩, fun P h => b.tb P (a.tb P h)⟩
/-- a change at an address that is new since H -/
theorem Gr.loc {A : List Addr} {p : Addr} {H H1 H2 : Hp} (a : Gr A H H1) (n : H p = none) (b : Gr [p] H1 H2) : Gr A H H2 := a.many (fun q m => .inr (by
  have e : q = p := by simpa using m
  exact e ▸ n)) b
theorem Gr.at1 {A : List Addr} {p : Addr} {H H1 H2 : Hp} (a : Gr A H H1) (m : p ∈ A) (b : Gr [p] H1 H2) : Gr A H H2 := a.trans (b.mono fun x z => by
  have e : x = p := by simpa using z
  exact e ▸ m)
theorem tabN_upd {nm : Nat → Nat → Str} {H : Hp} {p P : Addr} {o : HO} (n : ∀ u, H p = some u → (∀ ps, u ≠ .tbl ps) ∧ ∀ c q, u ≠ LamX.CodeO c q) (h : NdefX.TabN H P nm) : NdefX.TabN (upd H p o) P nm := by
  obtain ⟨ps, h1, h2, h3⟩ := h
  refine ⟨ps, ?_, h2, fun pos cv hc => ?_⟩
  · rw [upd_ne fun z => ?_]
    · exact h1
    · subst z
      exact (n _ h1).1 ps rfl
  · obtain ⟨c, e1, e2⟩ := h3 pos cv hc
    refine ⟨c, e1, ?_⟩
    rw [upd_ne fun z => ?_]
    · exact e2
    · subst z
      exact (n _ e2).2 c _ rfl
theorem Gr.new {A : List Addr} {H : Hp} {p : Addr} {o : HO} (n : H p = none) : Gr A H (upd H p o) := ⟨fun c u h => ⟨u, by
  rw [upd_ne (ne_of_none h n)]
  exact h, .inl rfl⟩, fun P h => tabN_upd (fun u z => by
    rw [n] at z
    cases z) h⟩
theorem Gr.setK {H : Hp} {p : Addr} {o o' : HO} (h : H p = some o') (k : kd o' ≠ 0) (t : kd o' ≠ 9) (e : kd o = kd o') : Gr [p] H (upd H p o) := ⟨fun c u q => by
  by_cases z : c = p
  · subst z
    rw [h] at q
    cases q
    exact ⟨o, upd_same, .inr (.inl ⟨by simp, k, e⟩)⟩
  · exact ⟨u, by rw [upd_ne z]; exact q, .inl rfl⟩, fun P hT => tabN_upd (fun u z => by
    rw [h] at z
    cases z
    refine ⟨fun ps e => ?_, fun c q e => ?_⟩
    · subst e
      exact t rfl
    · subst e
      exact k kd_code) hT⟩
theorem Gr.set {H : Hp} {p : Addr} {ys xs : List V} (h : H p = some (.lst xs)) : Gr [p] H (upd H p (.lst ys)) := Gr.setK h (by show 1 ≠ 0; decide) (by show 1 ≠ 9; decide) rfl
theorem Gr.free {A : List Addr} {H H' : Hp} (e : Gr A H H') {l : Addr} (h : H' l = Option.none) : H l = Option.none := by
  cases r : H l with
  | none => rfl
  | some o =>
    obtain ⟨o', h1, _⟩ := e.ob l o r
    rw [h] at h1
    cases h1
/-! ### what stands for a datum -/
abbrev Rp (α : Type) := Hp → α → V → Prop
/-- what never changes is as it was -/
def Im (H H' : Hp) : Prop := ∀ b o, H b = some o → kd o = 0 → H' b = some o
theorem Gr.im {A : List Addr} {H H' : Hp} (g : Gr A H H') : Im H H' := fun _ _ h k => g.to h (fun _ => k) (by rw [k]; decide)
class Imm {α : Type} (r : Rp α) : Prop where
  im : ∀ {H H' : Hp} {x : α} {v : V}, Im H H' → r H x v → r H' x v
theorem Imm.mono {α : Type} {r : Rp α} [Imm r] {A : List Addr} {H H' : Hp} {x : α} {v : V} (g : Gr A H H') (h : r H x v) : r H' x v := Imm.im g.im h
def rI : Rp Int := fun _ i v => v = .int i
def rB : Rp Bool := fun _ b v => v = .bl b
def rS : Rp Str := fun _ x v => v = .str x
def rN : Rp Unit := fun _ _ v => v = .non
instance : Imm rI := ⟨fun _ h => h⟩
instance : Imm rB := ⟨fun _ h => h⟩
instance : Imm rS := ⟨fun _ h => h⟩
instance : Imm rN := ⟨fun _ h => h⟩
def rO {α : Type} (r : Rp α) : Rp (Option α) := fun H o v => match o with
  | none => v = .non
  | some a => v ≠ .non ∧ r H a v
instance {α : Type} {r : Rp α} [Imm r] : Imm (rO r) := ⟨fun {H H' x v} g h => by
  cases x with
  | none => exact h
  | some a => exact ⟨h.1, Imm.im g h.2⟩⟩
theorem Paired.im {α : Type} {r : Rp α} [Imm r] {H H' : Hp} {xs : List α} {vs : List V} (g : Im H H') (h : Paired (r H) xs vs) : Paired (r H') xs vs := Paired.mapP h fun _ _ q => Imm.im g q
theorem Im.tup {K : PySem.W.Frag} {H H' : Hp} {a : Addr} {xs : List V} (g : Im H H') (h : SqT K H a xs) : SqT K H' a xs := by
  rcases h with (h | ⟨o, h⟩) | h
  · exact .inl (.inl (g _ _ h rfl))
  · exact .inl (.inr ⟨o, g _ _ h rfl⟩)
  · exact .inr h
theorem Paired.imm {α : Type} {r : Rp α} [Imm r] {A : List Addr} {H H' : Hp} {xs : List α} {vs : List V} (g : Gr A H H') (h : Paired (r H) xs vs) : Paired (r H') xs vs := Paired.mapP h fun _ _ q => Imm.mono g q
def Ls {α : Type} (r : Rp α) (H : Hp) (a : Addr) (xs : List α) : Prop := ∃ vs, H a = some (.lst vs) ∧ Paired (r H) xs vs
def Lq {α : Type} (K : PySem.W.Frag) (r : Rp α) (H : Hp) (a : Addr) (xs : List α) : Prop := ∃ vs, SqL K H a vs ∧ Paired (r H) xs vs
def Tq {α : Type} (K : PySem.W.Frag) (r : Rp α) (H : Hp) (a : Addr) (xs : List α) : Prop := ∃ vs, SqT K H a vs ∧ Paired (r H) xs vs
def rT {α : Type} (K : PySem.W.Frag) (r : Rp α) : Rp (List α) := fun H xs v => ∃ a, v = .ref a ∧ Tq K r H a xs
def rP {α β : Type} (K : PySem.W.Frag) (r : Rp α) (s : Rp β) : Rp (α × β) := fun H p v => ∃ a x y, v = .ref a ∧ SqT K H a [x, y] ∧ r H p.1 x ∧ s H p.2 y
def rP3 {α β γ : Type} (K : PySem.W.Frag) (r : Rp α) (s : Rp β) (t : Rp γ) : Rp (α × β × γ) := fun H p v => ∃ a x y z, v = .ref a ∧ SqT K H a [x, y, z] ∧ r H p.1 x ∧ s H p.2.1 y ∧ t H p.2.2 z
theorem Gr.tup {K : PySem.W.Frag} {A : List Addr} {H H' : Hp} {a : Addr} {xs : List V} (g : Gr A H H') (h : SqT K H a xs) : SqT K H' a xs := by
  rcases h with (h | ⟨o, h⟩) | h
  · exact .inl (.inl (g.to h (fun _ => rfl) nofun))
  · exact .inl (.inr ⟨o, g.to h (fun _ => rfl) nofun⟩)
  · exact .inr h
theorem Gr.lst {K : PySem.W.Frag} {A : List Addr} {H H' : Hp} {a : Addr} {xs : List V} (g : Gr A H H') (n : a ∉ A) (h : SqL K H a xs) : SqL K H' a xs := by
  rcases h with (h | ⟨o, h⟩) | h
  · exact .inl (.inl (g.to h (fun m => absurd m n) nofun))
  · exact .inl (.inr ⟨o, g.to h (fun _ => rfl) nofun⟩)
  · exact .inr h
section
variable {α β γ : Type} {K : PySem.W.Frag} {r : Rp α} {s : Rp β} {t : Rp γ} {A : List Addr} {H H' : Hp} {a p : Addr} {xs : List α}
theorem Tq.mono [Imm r] (g : Gr A H H') (h : Tq K r H a xs) : Tq K r H' a xs := let ⟨vs, h1, h2⟩ := h; ⟨vs, g.tup h1, Paired.imm g h2⟩
instance [Imm r] : Imm (rT K r) := ⟨fun g ⟨a, e, vs, h1, h2⟩ => ⟨a, e, vs, g.tup h1, Paired.im g h2⟩⟩
instance [Imm r] [Imm s] : Imm (rP K r s) := ⟨fun g ⟨a, x, y, e, h, h1, h2⟩ => ⟨a, x, y, e, g.tup h, Imm.im g h1, Imm.im g h2⟩⟩
instance [Imm r] [Imm s] [Imm t] : Imm (rP3 K r s t) := ⟨fun g ⟨a, x, y, z, e, h, h1, h2, h3⟩ => ⟨a, x, y, z, e, g.tup h, Imm.im g h1, Imm.im g h2, Imm.im g h3⟩⟩
theorem Ls.q (h : Ls r H a xs) : Lq K r H a xs := let ⟨vs, h1, h2⟩ := h; ⟨vs, SqL.of h1, h2⟩
theorem Ls.g0 [Imm r] (g : Gr [] H H') (h : Ls r H a xs) : Ls r H' a xs := let ⟨vs, h1, h2⟩ := h; ⟨vs, g.to h1 (fun m => absurd m (by simp)) nofun, Paired.imm g h2⟩
theorem Ls.g1 [Imm r] (g : Gr [p] H H') (n : a ≠ p) (h : Ls r H a xs) : Ls r H' a xs := let ⟨vs, h1, h2⟩ := h; ⟨vs, g.to h1 (fun m => absurd (by simpa using m) n) nofun, Paired.imm g h2⟩
theorem Ls.gA [Imm r] (g : Gr A H H') (n : a ∉ A) (h : Ls r H a xs) : Ls r H' a xs := let ⟨vs, h1, h2⟩ := h; ⟨vs, g.to h1 (fun m => absurd m n) nofun, Paired.imm g h2⟩
theorem Lq.g0 [Imm r] (g : Gr [] H H') (h : Lq K r H a xs) : Lq K r H' a xs := let ⟨vs, h1, h2⟩ := h; ⟨vs, g.lst (by simp) h1, Paired.imm g h2⟩
theorem Lq.gA [Imm r] (g : Gr A H H') (n : a ∉ A) (h : Lq K r H a xs) : Lq K r H' a xs := let ⟨vs, h1, h2⟩ := h; ⟨vs, g.lst n h1, Paired.imm g h2⟩
theorem Ls.ne (h : Ls r H a xs) (n : H p = none) : a ≠ p := let ⟨_, h1, _⟩ := h; ne_of_none h1 n
theorem Ls.some (h : Ls r H a xs) : ∃ vs, H a = some (.lst vs) := let ⟨vs, h1, _⟩ := h; ⟨vs, h1⟩
/-! ### displays, items, changes -/
variable {Q : VK} {E : Er → Prop}
/-- a new tuple, a new list -/
def aTup (xs : List V) (H : Hp) (Q : VK) : Prop := xs.length ≤ sizeLine ∧ ∀ p, H p = none → Q (.ref p) (upd H p (.tup xs))
def aLst (xs : List V) (H : Hp) (Q : VK) : Prop := xs.length ≤ sizeLine ∧ ∀ p, H p = none → Q (.ref p) (upd H p (.lst xs))
/-- a call's reading, held together -/
def ap3 (r : List V → Hp → VK → Prop) (vs : List V) (H : Hp) (Q : VK) : Prop := r vs H Q
theorem mk_P [Imm r] [Imm s] {x y : V} {a : α} {b : β} (hx : r H a x) (hy : s H b y) (q : ∀ v H', Gr [] H H' → rP K r s H' (a, b) v → Q v H') : aTup [x, y] H Q :=
  ⟨by show 2 ≤ sizeLine; decide, fun p n => q _ _ (Gr.new n) ⟨p, x, y, rfl, SqT.of upd_same, Imm.mono (Gr.new (A := []) n) hx, Imm.mono (Gr.new (A := []) n) hy⟩⟩
theorem mk_P3 [Imm r] [Imm s] [Imm t] {x y z : V} {a : α} {b : β} {c : γ} (hx : r H a x) (hy : s H b y) (hz : t H c z) (q : ∀ v H', Gr [] H H' → rP3 K r s t H' (a, b, c) v → Q v H') : aTup [x, y, z] H Q :=
  ⟨by show 3 ≤ sizeLine; decide, fun p n => q _ _ (Gr.new n) ⟨p, x, y, z, rfl, SqT.of upd_same, Imm.mono (Gr.new (A := []) n) hx, Imm.mono (Gr.new (A := []) n) hy, Imm.mono (Gr.new (A := []) n) hz⟩⟩
theorem mk_T [Imm r] {vs : List V} (h : Paired (r H) xs vs) (l : vs.length ≤ sizeLine) (q : ∀ v H', Gr [] H H' → rT K r H' xs v → Q v H') : aTup vs H Q :=
  ⟨l, fun p n => q _ _ (Gr.new n) ⟨p, rfl, vs, SqT.of upd_same, Paired.imm (Gr.new (A := []) n) h⟩⟩
theorem mk_L [Imm r] {vs : List V} (h : Paired (r H) xs vs) (l : vs.length ≤ sizeLine) (q : ∀ p H', H p = none → Gr [] H H' → Ls r H' p xs → Q (.ref p) H') : aLst vs H Q :=
  ⟨l, fun p n => q _ _ n (Gr.new n) ⟨vs, upd_same, Paired.imm (Gr.new (A := []) n) h⟩⟩
def lenOk {α : Type} (xs : List α) : Prop := xs.length ≤ sizeLine
instance {α : Type} (xs : List α) : Decidable (lenOk xs) := inferInstanceAs (Decidable (_ ≤ _))
def lenLt {α : Type} (xs : List α) : Prop := xs.length < sizeLine
instance {α : Type} (xs : List α) : Decidable (lenLt xs) := inferInstanceAs (Decidable (_ < _))
theorem Paired.app {r : α → V → Prop} : ∀ {xs ys : List α} {vs ws : List V}, Paired r xs vs → Paired r ys ws → Paired r (xs ++ ys) (vs ++ ws)
  | _, _, _, _, .nil, s => s
  | _, _, _, _, .cons r t, s => .cons r (Paired.app t s)
theorem rd_append [Imm r] {y : V} {x : α} (h : Ls r H a xs) (hy : r H x y) (l : lenLt xs) (q : ∀ H', Gr [a] H H' → Ls r H' a (xs ++ [x]) → Q .non H') : rAppend (.ref a) [y] H Q := by
  obtain ⟨vs, h1, h2⟩ := h
  refine ⟨a, vs, y, rfl, rfl, h1, by rw [← Paired.length h2]; exact l, q _ (Gr.set h1) ⟨_, upd_same, ?_⟩⟩
  exact Paired.app (Paired.imm (Gr.set h1) h2) (.cons (Imm.mono (Gr.set h1) hy) .nil)
/-- an item by its place -/
def getL {α : Type} (xs : List α) (i : Int) : R α := match atI xs i with
  | some x => .ok x
  | none => .out
theorem Paired.at {r : α → V → Prop} : ∀ {xs : List α} {vs : List V} {i : Nat} {x : α}, Paired r xs vs → xs[i]? = some x → ∃ v, vs[i]? = some v ∧ r x v
  | _, _, _, _, .nil, e => by simp at e
  | _, _, 0, _, .cons h _, e => by
    simp at e
    subst e
    exact ⟨_, rfl, h⟩
  | _, _, i + 1, _, .cons _ t, e => by
    obtain ⟨v, h1, h2⟩ := Paired.at (i := i) t (by simpa using e)
    exact ⟨v, by simpa using h1, h2⟩
theorem getL_at {r : α → V → Prop} {vs : List V} {i : Int} {Z : α → Prop} (h : Paired r xs vs) (hm : wp (getL xs i) Z E) : ∃ x v, atI vs i = some v ∧ r x v ∧ Z x := by
  unfold getL at hm
  cases e : atI xs i with
  | none =>
    rw [e] at hm
    exact hm.elim
  | some x =>
    rw [e] at hm
    unfold atI at e
    cases e2 : ixN xs.length i with
    | none =>
      rw [e2] at e
      cases e
    | some j =>
      rw [e2] at e
      obtain ⟨v, h1, h2⟩ := Paired.at h (show xs[j]? = some x from e)
      refine ⟨x, v, ?_, h2, hm⟩
      unfold atI
      rw [← Paired.length h, e2]
      exact h1
theorem ix_L {i : Int} {Z : α → Prop} (h : Lq K r H a xs) (hm : wp (getL xs i) Z E) (q : ∀ x v, r H x v → Z x → Q v H) : rIxL K (.ref a) (.int i) H Q := by
  obtain ⟨vs, h1, h2⟩ := h
  obtain ⟨x, v, e, hr, hz⟩ := getL_at h2 hm
  exact ⟨a, vs, i, v, rfl, rfl, h1, e, q x v hr hz⟩
theorem ix_T {i : Int} {Z : α → Prop} {v : V} (h : rT K r H xs v) (hm : wp (getL xs i) Z E) (q : ∀ x v, r H x v → Z x → Q v H) : rIxT K v (.int i) H Q := by
  obtain ⟨a, rfl, vs, h1, h2⟩ := h
  obtain ⟨x, v, e, hr, hz⟩ := getL_at h2 hm
  exact ⟨a, vs, i, v, rfl, rfl, h1, e, q x v hr hz⟩
/-- an item changed -/
def setL {α : Type} (xs : List α) (i : Int) (x : α) : R (List α) := match ixN xs.length i with
  | some j => .ok (xs.set j x)
  | none => .out
theorem Paired.set {r : α → V → Prop} {x : α} {v : V} (h : r x v) : ∀ {xs : List α} {vs : List V} (i : Nat), Paired r xs vs → Paired r (xs.set i x) (vs.set i v)
  | _, _, _, .nil => .nil
  | _, _, 0, .cons _ t => .cons h t
  | _, _, i + 1, .cons q t => .cons q (Paired.set h i t)
theorem rd_set [Imm r] {i : Int} {y : V} {x : α} {Z : List α → Prop} {Q : Hp → Prop} (h : Ls r H a xs) (hy : r H x y) (hm : wp (setL xs i x) Z E) (q : ∀ ys H', Gr [a] H H' → Ls r H' a ys → Z ys → Q H') : rSetL (.ref a) (.int i) y H Q := by
  obtain ⟨vs, h1, h2⟩ := h
  unfold setL at hm
  cases e : ixN xs.length i with
  | none =>
    rw [e] at hm
    exact hm.elim
  | some j =>
    rw [e] at hm
    exact ⟨a, vs, i, j, rfl, rfl, h1, by rw [← Paired.length h2]; exact e, q _ _ (Gr.set h1) ⟨_, upd_same, Paired.set (Imm.mono (Gr.set h1) hy) j (Paired.imm (Gr.set h1) h2)⟩ hm⟩
theorem cat_L [Imm r] {b : Addr} {ys : List α} (h : Ls r H a xs) (h' : Ls r H b ys) (l : lenOk (xs ++ ys)) (q : ∀ p H', H p = none → Gr [] H H' → Ls r H' p (xs ++ ys) → Q (.ref p) H') : rCat (.ref a) (.ref b) H Q := by
  obtain ⟨vs, h1, h2⟩ := h
  obtain ⟨ws, h3, h4⟩ := h'
  refine ⟨a, b, vs, ws, rfl, rfl, h1, h3, ?_, fun p n => q _ _ n (Gr.new n) ⟨_, upd_same, Paired.app (Paired.imm (Gr.new (A := []) n) h2) (Paired.imm (Gr.new (A := []) n) h4)⟩⟩
  rw [← Paired.length h2, ← Paired.length h4, ← List.length_append]
  exact l
theorem len_L (h : Lq K r H a xs) (q : Q (.int xs.length) H) : ap3 (fun vs H Q => ∃ p ys, vs = [V.ref p] ∧ (SqL K H p ys ∨ SqT K H p ys) ∧ Q (.int ys.length) H) [.ref a] H Q := by
  obtain ⟨vs, h1, h2⟩ := h
  exact ⟨a, vs, rfl, .inl h1, by rw [← Paired.length h2]; exact q⟩
theorem len_T {v : V} (h : rT K r H xs v) (q : Q (.int xs.length) H) : ap3 (fun vs H Q => ∃ p ys, vs = [V.ref p] ∧ (SqL K H p ys ∨ SqT K H p ys) ∧ Q (.int ys.length) H) [v] H Q := by
  obtain ⟨a, rfl, vs, h1, h2⟩ := h
  exact ⟨a, vs, rfl, .inr h1, by rw [← Paired.length h2]; exact q⟩
theorem tup_of_L [Imm r] (h : Lq K r H a xs) (q : ∀ v H', Gr [] H H' → rT K r H' xs v → Q v H') : ap3 (fun vs H Q => ∃ p ys, vs = [V.ref p] ∧ ((SqL K H p ys ∧ ∀ l, H l = none → Q (.ref l) (upd H l (.tup ys))) ∨ (SqT K H p ys ∧ Q (.ref p) H))) [.ref a] H Q := by
  obtain ⟨vs, h1, h2⟩ := h
  exact ⟨a, vs, rfl, .inl ⟨h1, fun l n => q _ _ (Gr.new n) ⟨l, rfl, vs, SqT.of upd_same, Paired.imm (Gr.new (A := []) n) h2⟩⟩⟩
theorem lst_of_L [Imm r] (h : Lq K r H a xs) (q : ∀ p H', H p = none → Gr [] H H' → Ls r H' p xs → Q (.ref p) H') : ap3 (fun vs H Q => ∃ p ys, vs = [V.ref p] ∧ (SqL K H p ys ∨ SqT K H p ys) ∧ ∀ l, H l = none → Q (.ref l) (upd H l (.lst ys))) [.ref a] H Q := by
  obtain ⟨vs, h1, h2⟩ := h
  exact ⟨a, vs, rfl, .inl h1, fun l n => q _ _ n (Gr.new n) ⟨vs, upd_same, Paired.imm (Gr.new (A := []) n) h2⟩⟩
theorem lst_of_T [Imm r] {v : V} (h : rT K r H xs v) (q : ∀ p H', H p = none → Gr [] H H' → Ls r H' p xs → Q (.ref p) H') : ap3 (fun vs H Q => ∃ p ys, vs = [V.ref p] ∧ (SqL K H p ys ∨ SqT K H p ys) ∧ ∀ l, H l = none → Q (.ref l) (upd H l (.lst ys))) [v] H Q := by
  obtain ⟨a, rfl, vs, h1, h2⟩ := h
  exact ⟨a, vs, rfl, .inr h1, fun l n => q _ _ n (Gr.new n) ⟨vs, upd_same, Paired.imm (Gr.new (A := []) n) h2⟩⟩
theorem Paired.take {r : α → V → Prop} : ∀ {xs : List α} {vs : List V} (n : Nat), Paired r xs vs → Paired r (xs.take n) (vs.take n)
  | _, _, 0, _ => .nil
  | _, _, _ + 1, .nil => .nil
  | _, _, n + 1, .cons h t => .cons h (Paired.take n t)
theorem Paired.drop {r : α → V → Prop} : ∀ {xs : List α} {vs : List V} (n : Nat), Paired r xs vs → Paired r (xs.drop n) (vs.drop n)
  | _, _, 0, h => h
  | _, _, _ + 1, .nil => .nil
  | _, _, n + 1, .cons _ t => Paired.drop n t
def cutT {α : Type} (xs : List α) (lo hi : Option Int) : List α := (xs.drop (HT.sIx xs.length 0 lo)).take (HT.sIx xs.length xs.length hi - HT.sIx xs.length 0 lo)
theorem cut_L [Imm r] {lo hi : Option Int} (h : Lq K r H a xs) (q : ∀ p H', H p = none → Gr [] H H' → Ls r H' p (cutT xs lo hi) → Q (.ref p) H') : rSlL K (.ref a) lo hi H Q := by
  obtain ⟨vs, h1, h2⟩ := h
  refine ⟨a, vs, rfl, h1, fun p n => q _ _ n (Gr.new n) ⟨_, upd_same, Paired.imm (Gr.new (A := []) n) ?_⟩⟩
  unfold cutT cutV
  rw [← Paired.length h2]
  exact Paired.take _ (Paired.drop _ h2)
theorem ints_of {ns : List Int} {vs : List V} (h : Paired (rI H) ns vs) : vs = ns.map V.int := by
  induction h with
  | nil => rfl
  | cons h _ ih => rw [ih, show _ = V.int _ from h] <;> rfl
theorem of_ints {ns : List Int} : Paired (rI H) ns (ns.map V.int) := by
  induction ns with
  | nil => exact .nil
  | cons n ns ih => exact .cons rfl ih
def isort (ns : List Int) : List Int := ns.mergeSort fun a b => decide (a ≤ b)
theorem sort_eq {l m : List Int} (p : l.Perm m) (a : l.Pairwise (· ≤ ·)) (b : m.Pairwise (· ≤ ·)) : l = m := p.eq_of_pairwise (fun x y _ _ h1 h2 => by omega) a b
theorem isort_perm (ns : List Int) : (isort ns).Perm ns := List.mergeSort_perm ns _
theorem isort_le (ns : List Int) : (isort ns).Pairwise (· ≤ ·) := by
  have h := List.pairwise_mergeSort (le := fun a b : Int => decide (a ≤ b)) (fun a b c h1 h2 => by simp at *; omega) (fun a b => by simp; omega) ns
  exact h.imp fun h => by simpa using h
end

/-! ### turns of loops -/
section
variable {σt ρ α : Type} {E : Er → Prop} {g : TG} {tb : TS} {D : Ends} {σ : L2.St} {H : Hp} {K : PySem.W.Frag} {a : Addr} {lo : Int} {n : Nat} {r : Rp α} {xs : List α} {s0 : σt}
theorem Paired.get2 {r : α → V → Prop} : ∀ {l₁ : List α} {l₂ : List V} {i : Nat} {v : V}, Paired r l₁ l₂ → l₂[i]? = some v → ∀ h : i < l₁.length, r l₁[i] v
  | _, _, _, _, .nil, _, h => absurd h (Nat.not_lt_zero _)
  | _, _, 0, _, .cons p _, e, _ => Option.some.inj e ▸ p
  | _, _, i + 1, _, .cons _ t, e, h => Paired.get2 (i := i) t e (Nat.lt_of_succ_lt_succ h)
theorem foldR_step {f : σt → α → R σt} {s : σt} {i : Nat} (h : i < xs.length) {P : σt → Prop} (hw : wp (foldR f s (xs.drop i)) P E) : wp (f s xs[i]) (fun s' => wp (foldR f s' (xs.drop (i + 1))) P E) E := by
  rw [List.drop_eq_getElem_cons h] at hw
  exact wp_bind (m := f s xs[i]) (f := fun s' => foldR f s' (xs.drop (i + 1))) hw
theorem foldR_end {f : σt → α → R σt} {s : σt} {i : Nat} (h : xs.length ≤ i) {P : σt → Prop} (hw : wp (foldR f s (xs.drop i)) P E) : P s := by
  rw [List.drop_of_length_le h] at hw
  exact hw
theorem loopR_step {f : σt → α → R (Lp σt ρ)} {s : σt} {i : Nat} (h : i < xs.length) {dn : σt → Prop} {rt : ρ → Prop} (hw : wp (loopR f s (xs.drop i)) (leP dn rt) E) : wp (f s xs[i]) (lpP (fun s' => wp (loopR f s' (xs.drop (i + 1))) (leP dn rt) E) dn rt) E := by
  rw [List.drop_eq_getElem_cons h] at hw
  have hw := wp_bind (m := f s xs[i]) (f := fun o => match o with
    | .nx s' => loopR f s' (xs.drop (i + 1))
    | .bk s' => .ok (.dn s')
    | .rt r => .ok (.rt r)) hw
  refine wp_imp hw (fun o ho => ?_) fun _ e => e
  cases o with
  | nx s' => exact ho
  | bk s' => exact ho
  | rt r => exact ho
theorem loopR_end {f : σt → α → R (Lp σt ρ)} {s : σt} {i : Nat} (h : xs.length ≤ i) {dn : σt → Prop} {rt : ρ → Prop} (hw : wp (loopR f s (xs.drop i)) (leP dn rt) E) : dn s := by
  rw [List.drop_of_length_le h] at hw
  exact hw
theorem rng_get (lo : Int) : ∀ (n i : Nat) (h : i < (rng lo n).length), (rng lo n)[i] = lo + i := by
  intro n
  induction n generalizing lo with
  | zero => intro i h; exact absurd h (Nat.not_lt_zero _)
  | succ n ih =>
    intro i h
    cases i with
    | zero =>
      show lo = lo + ((0 : Nat) : Int)
      omega
    | succ i =>
      have := ih (lo + 1) i (Nat.lt_of_succ_lt_succ h)
      show (rng (lo + 1) n)[i]'(Nat.lt_of_succ_lt_succ h) = lo + ((i + 1 : Nat) : Int)
      rw [this]
      omega

theorem for_rngR {f : σt → Int → R σt} (rel : σt → L2.St → Hp → Prop)
    (hm : wp (foldR f s0 (rng lo n)) (fun s => ∀ σ H, rel s σ H → D.nx σ H) E) (h0 : rel s0 σ H)
    (hs : ∀ (x : Int) (s : σt) (σ : L2.St) (H : Hp) (N : L2.St → Hp → Prop), rel s σ H → wp (f s x) (fun s' => ∀ σ' H', rel s' σ' H' → N σ' H') E →
      g (.int x) σ H fun σ2 H2 => tb { D with nx := N, ct := N, bk := D.nx } σ2 H2) :
    ∃ W : Nat → Nat → L2.St → Hp → Prop, (∃ m, W 0 m σ H) ∧ ∀ i m σ H, W i m σ H →
      ((Itr lo n).stop i H ∧ D.nx σ H) ∨ ((Itr lo n).go i H ∧ ∃ N : L2.St → Hp → Prop, (∀ σ' H', N σ' H' → ∃ m', m' < m ∧ W (i + 1) m' σ' H') ∧ ∀ x H', (Itr lo n).yld i H x H' → g x σ H' fun σ2 H2 => tb { D with nx := N, ct := N, bk := D.nx } σ2 H2) := by
  refine for_range (lo := lo) (n := n) (fun i σ H => ∃ s, rel s σ H ∧ wp (foldR f s ((rng lo n).drop i)) (fun s => ∀ σ H, rel s σ H → D.nx σ H) E) ⟨s0, h0, hm⟩ ?_ ?_
  · rintro i σ H hi ⟨s, hr, hw⟩
    have hi' : i < (rng lo n).length := by rw [rng_length]; exact hi
    have hw := foldR_step hi' hw
    rw [rng_get lo n i hi'] at hw
    exact hs (lo + i) s σ H _ hr (wp_imp hw (fun s' hs' => fun σ' H' r' => ⟨s', r', hs'⟩) fun _ e => e)
  · rintro σ H ⟨s, hr, hw⟩
    exact foldR_end (by rw [rng_length]; exact Nat.le_refl _) hw σ H hr

theorem for_rngL {f : σt → Int → R (Lp σt ρ)} {RT : ρ → Prop} (rel : σt → L2.St → Hp → Prop)
    (hm : wp (loopR f s0 (rng lo n)) (leP (fun s => ∀ σ H, rel s σ H → D.nx σ H) RT) E) (h0 : rel s0 σ H)
    (hs : ∀ (x : Int) (s : σt) (σ : L2.St) (H : Hp) (N : L2.St → Hp → Prop), rel s σ H → wp (f s x) (lpP (fun s' => ∀ σ' H', rel s' σ' H' → N σ' H') (fun s' => ∀ σ' H', rel s' σ' H' → D.nx σ' H') RT) E →
      g (.int x) σ H fun σ2 H2 => tb { D with nx := N, ct := N, bk := D.nx } σ2 H2) :
    ∃ W : Nat → Nat → L2.St → Hp → Prop, (∃ m, W 0 m σ H) ∧ ∀ i m σ H, W i m σ H →
      ((Itr lo n).stop i H ∧ D.nx σ H) ∨ ((Itr lo n).go i H ∧ ∃ N : L2.St → Hp → Prop, (∀ σ' H', N σ' H' → ∃ m', m' < m ∧ W (i + 1) m' σ' H') ∧ ∀ x H', (Itr lo n).yld i H x H' → g x σ H' fun σ2 H2 => tb { D with nx := N, ct := N, bk := D.nx } σ2 H2) := by
  refine for_range (lo := lo) (n := n) (fun i σ H => ∃ s, rel s σ H ∧ wp (loopR f s ((rng lo n).drop i)) (leP (fun s => ∀ σ H, rel s σ H → D.nx σ H) RT) E) ⟨s0, h0, hm⟩ ?_ ?_
  · rintro i σ H hi ⟨s, hr, hw⟩
    have hi' : i < (rng lo n).length := by rw [rng_length]; exact hi
    have hw := loopR_step hi' hw
    rw [rng_get lo n i hi'] at hw
    exact hs (lo + i) s σ H _ hr (wp_imp hw (fun s' hs' => (by
      cases s' with
      | nx s' => exact fun σ' H' r' => ⟨s', r', hs'⟩
      | bk s' => exact hs'
      | rt r => exact hs')) fun _ e => e)
  · rintro σ H ⟨s, hr, hw⟩
    exact loopR_end (by rw [rng_length]; exact Nat.le_refl _) hw σ H hr

theorem for_lstR {f : σt → α → R σt} (rel : σt → L2.St → Hp → Prop) {vs : List V} {H0 : Hp} (hp : Paired (r H0) xs vs)
    (hm : wp (foldR f s0 xs) (fun s => ∀ σ H, rel s σ H → D.nx σ H) E) (h0 : rel s0 σ H) (hl : ∀ s σ H, rel s σ H → SqL K H a vs)
    (hs : ∀ (x : α) (v : V) (s : σt) (σ : L2.St) (H : Hp) (N : L2.St → Hp → Prop), r H0 x v → rel s σ H → wp (f s x) (fun s' => ∀ σ' H', rel s' σ' H' → N σ' H') E →
      g v σ H fun σ2 H2 => tb { D with nx := N, ct := N, bk := D.nx } σ2 H2) :
    ∃ W : Nat → Nat → L2.St → Hp → Prop, (∃ m, W 0 m σ H) ∧ ∀ i m σ H, W i m σ H →
      ((Itl K a).stop i H ∧ D.nx σ H) ∨ ((Itl K a).go i H ∧ ∃ N : L2.St → Hp → Prop, (∀ σ' H', N σ' H' → ∃ m', m' < m ∧ W (i + 1) m' σ' H') ∧ ∀ x H', (Itl K a).yld i H x H' → g x σ H' fun σ2 H2 => tb { D with nx := N, ct := N, bk := D.nx } σ2 H2) := by
  refine for_list (K := K) (a := a) (xs := vs) (fun i σ H => ∃ s, rel s σ H ∧ wp (foldR f s (xs.drop i)) (fun s => ∀ σ H, rel s σ H → D.nx σ H) E) ⟨s0, h0, hm⟩ (fun i σ H _ ⟨s, hr, _⟩ => hl s σ H hr) ?_ ?_
  · rintro i v σ H hi ⟨s, hr, hw⟩
    have hi' : i < xs.length := by rw [Paired.length hp]; exact (List.getElem?_eq_some_iff.mp hi).1
    have hw := foldR_step hi' hw
    exact hs xs[i] v s σ H _ (Paired.get2 hp hi hi') hr (wp_imp hw (fun s' hs' => fun σ' H' r' => ⟨s', r', hs'⟩) fun _ e => e)
  · rintro σ H ⟨s, hr, hw⟩
    exact foldR_end (by rw [Paired.length hp]; exact Nat.le_refl _) hw σ H hr

theorem for_lstL {f : σt → α → R (Lp σt ρ)} {RT : ρ → Prop} (rel : σt → L2.St → Hp → Prop) {vs : List V} {H0 : Hp} (hp : Paired (r H0) xs vs)
    (hm : wp (loopR f s0 xs) (leP (fun s => ∀ σ H, rel s σ H → D.nx σ H) RT) E) (h0 : rel s0 σ H) (hl : ∀ s σ H, rel s σ H → SqL K H a vs)
    (hs : ∀ (x : α) (v : V) (s : σt) (σ : L2.St) (H : Hp) (N : L2.St → Hp → Prop), r H0 x v → rel s σ H → wp (f s x) (lpP (fun s' => ∀ σ' H', rel s' σ' H' → N σ' H') (fun s' => ∀ σ' H', rel s' σ' H' → D.nx σ' H') RT) E →
      g v σ H fun σ2 H2 => tb { D with nx := N, ct := N, bk := D.nx } σ2 H2) :
    ∃ W : Nat → Nat → L2.St → Hp → Prop, (∃ m, W 0 m σ H) ∧ ∀ i m σ H, W i m σ H →
      ((Itl K a).stop i H ∧ D.nx σ H) ∨ ((Itl K a).go i H ∧ ∃ N : L2.St → Hp → Prop, (∀ σ' H', N σ' H' → ∃ m', m' < m ∧ W (i + 1) m' σ' H') ∧ ∀ x H', (Itl K a).yld i H x H' → g x σ H' fun σ2 H2 => tb { D with nx := N, ct := N, bk := D.nx } σ2 H2) := by
  refine for_list (K := K) (a := a) (xs := vs) (fun i σ H => ∃ s, rel s σ H ∧ wp (loopR f s (xs.drop i)) (leP (fun s => ∀ σ H, rel s σ H → D.nx σ H) RT) E) ⟨s0, h0, hm⟩ (fun i σ H _ ⟨s, hr, _⟩ => hl s σ H hr) ?_ ?_
  · rintro i v σ H hi ⟨s, hr, hw⟩
    have hi' : i < xs.length := by rw [Paired.length hp]; exact (List.getElem?_eq_some_iff.mp hi).1
    have hw := loopR_step hi' hw
    exact hs xs[i] v s σ H _ (Paired.get2 hp hi hi') hr (wp_imp hw (fun s' hs' => (by
      cases s' with
      | nx s' => exact fun σ' H' r' => ⟨s', r', hs'⟩
      | bk s' => exact hs'
      | rt r => exact hs')) fun _ e => e)
  · rintro σ H ⟨s, hr, hw⟩
    exact loopR_end (by rw [Paired.length hp]; exact Nat.le_refl _) hw σ H hr

theorem for_tupR {f : σt → α → R σt} (rel : σt → L2.St → Hp → Prop) {vs : List V} {H0 : Hp} (hp : Paired (r H0) xs vs)
    (hm : wp (foldR f s0 xs) (fun s => ∀ σ H, rel s σ H → D.nx σ H) E) (h0 : rel s0 σ H) (hl : ∀ s σ H, rel s σ H → SqT K H a vs)
    (hs : ∀ (x : α) (v : V) (s : σt) (σ : L2.St) (H : Hp) (N : L2.St → Hp → Prop), r H0 x v → rel s σ H → wp (f s x) (fun s' => ∀ σ' H', rel s' σ' H' → N σ' H') E →
      g v σ H fun σ2 H2 => tb { D with nx := N, ct := N, bk := D.nx } σ2 H2) :
    ∃ W : Nat → Nat → L2.St → Hp → Prop, (∃ m, W 0 m σ H) ∧ ∀ i m σ H, W i m σ H →
      ((Itt K a).stop i H ∧ D.nx σ H) ∨ ((Itt K a).go i H ∧ ∃ N : L2.St → Hp → Prop, (∀ σ' H', N σ' H' → ∃ m', m' < m ∧ W (i + 1) m' σ' H') ∧ ∀ x H', (Itt K a).yld i H x H' → g x σ H' fun σ2 H2 => tb { D with nx := N, ct := N, bk := D.nx } σ2 H2) := by
  refine for_tup (K := K) (a := a) (xs := vs) (fun i σ H => ∃ s, rel s σ H ∧ wp (foldR f s (xs.drop i)) (fun s => ∀ σ H, rel s σ H → D.nx σ H) E) ⟨s0, h0, hm⟩ (fun i σ H _ ⟨s, hr, _⟩ => hl s σ H hr) ?_ ?_
  · rintro i v σ H hi ⟨s, hr, hw⟩
    have hi' : i < xs.length := by rw [Paired.length hp]; exact (List.getElem?_eq_some_iff.mp hi).1
    have hw := foldR_step hi' hw
    exact hs xs[i] v s σ H _ (Paired.get2 hp hi hi') hr (wp_imp hw (fun s' hs' => fun σ' H' r' => ⟨s', r', hs'⟩) fun _ e => e)
  · rintro σ H ⟨s, hr, hw⟩
    exact foldR_end (by rw [Paired.length hp]; exact Nat.le_refl _) hw σ H hr

theorem for_tupL {f : σt → α → R (Lp σt ρ)} {RT : ρ → Prop} (rel : σt → L2.St → Hp → Prop) {vs : List V} {H0 : Hp} (hp : Paired (r H0) xs vs)
    (hm : wp (loopR f s0 xs) (leP (fun s => ∀ σ H, rel s σ H → D.nx σ H) RT) E) (h0 : rel s0 σ H) (hl : ∀ s σ H, rel s σ H → SqT K H a vs)
    (hs : ∀ (x : α) (v : V) (s : σt) (σ : L2.St) (H : Hp) (N : L2.St → Hp → Prop), r H0 x v → rel s σ H → wp (f s x) (lpP (fun s' => ∀ σ' H', rel s' σ' H' → N σ' H') (fun s' => ∀ σ' H', rel s' σ' H' → D.nx σ' H') RT) E →
      g v σ H fun σ2 H2 => tb { D with nx := N, ct := N, bk := D.nx } σ2 H2) :
    ∃ W : Nat → Nat → L2.St → Hp → Prop, (∃ m, W 0 m σ H) ∧ ∀ i m σ H, W i m σ H →
      ((Itt K a).stop i H ∧ D.nx σ H) ∨ ((Itt K a).go i H ∧ ∃ N : L2.St → Hp → Prop, (∀ σ' H', N σ' H' → ∃ m', m' < m ∧ W (i + 1) m' σ' H') ∧ ∀ x H', (Itt K a).yld i H x H' → g x σ H' fun σ2 H2 => tb { D with nx := N, ct := N, bk := D.nx } σ2 H2) := by
  refine for_tup (K := K) (a := a) (xs := vs) (fun i σ H => ∃ s, rel s σ H ∧ wp (loopR f s (xs.drop i)) (leP (fun s => ∀ σ H, rel s σ H → D.nx σ H) RT) E) ⟨s0, h0, hm⟩ (fun i σ H _ ⟨s, hr, _⟩ => hl s σ H hr) ?_ ?_
  · rintro i v σ H hi ⟨s, hr, hw⟩
    have hi' : i < xs.length := by rw [Paired.length hp]; exact (List.getElem?_eq_some_iff.mp hi).1
    have hw := loopR_step hi' hw
    exact hs xs[i] v s σ H _ (Paired.get2 hp hi hi') hr (wp_imp hw (fun s' hs' => (by
      cases s' with
      | nx s' => exact fun σ' H' r' => ⟨s', r', hs'⟩
      | bk s' => exact hs'
      | rt r => exact hs')) fun _ e => e)
  · rintro σ H ⟨s, hr, hw⟩
    exact loopR_end (by rw [Paired.length hp]; exact Nat.le_refl _) hw σ H hr

/-- a while; N, W, m: handed on -/
theorem whl_R {c : TT} {cb : σt → R Bool} {f : σt → R σt} {n : Nat} (rel : σt → L2.St → Hp → Prop)
    (hm : wp (whileR cb f n s0) (fun s => ∀ σ H, rel s σ H → D.nx σ H) E) (h0 : rel s0 σ H)
    (hs : ∀ (s : σt) (σ : L2.St) (H : Hp) (N : L2.St → Hp → Prop) (W : Nat → L2.St → Hp → Prop) (m : Nat), (∀ σ' H', N σ' H' → ∃ m', m' < m ∧ W m' σ' H') → rel s σ H →
      wp (cb s) (fun b => if b = true then wp (f s) (fun s' => ∀ σ' H', rel s' σ' H' → N σ' H') E else ∀ σ H, rel s σ H → D.nx σ H) E →
      c σ H fun b H1 => if b = true then ∃ N : L2.St → Hp → Prop, (∀ σ' H', N σ' H' → ∃ m', m' < m ∧ W m' σ' H') ∧ tb { D with nx := N, ct := N, bk := D.nx } σ H1 else D.nx σ H1) : tWhile c tb D σ H := by
  refine ⟨fun m σ H => ∃ s, rel s σ H ∧ wp (whileR cb f m s) (fun s => ∀ σ H, rel s σ H → D.nx σ H) E, ⟨n, s0, h0, hm⟩, ?_⟩
  rintro m σ H ⟨s, hr, hw⟩
  cases m with
  | zero => exact hw.elim
  | succ m =>
    have hw := wp_bind (m := cb s) (f := fun b => if b = true then (f s).bind fun s' => whileR cb f m s' else .ok s) hw
    refine hs s σ H (fun σ' H' => ∃ s', rel s' σ' H' ∧ wp (whileR cb f m s') (fun s => ∀ σ H, rel s σ H → D.nx σ H) E) _ _ (fun σ' H' h => ⟨m, Nat.lt_succ_self _, h⟩) hr (wp_imp hw (fun b hb => ?_) fun _ e => e)
    cases b with
    | true => exact wp_imp (wp_bind hb) (fun s' hs' => fun σ' H' r' => ⟨s', r', hs'⟩) fun _ e => e
    | false => exact hb
theorem whl_L {c : TT} {cb : σt → R Bool} {f : σt → R (Lp σt ρ)} {n : Nat} {RT : ρ → Prop} (rel : σt → L2.St → Hp → Prop)
    (hm : wp (whileL cb f n s0) (leP (fun s => ∀ σ H, rel s σ H → D.nx σ H) RT) E) (h0 : rel s0 σ H)
    (hs : ∀ (s : σt) (σ : L2.St) (H : Hp) (N : L2.St → Hp → Prop) (W : Nat → L2.St → Hp → Prop) (m : Nat), (∀ σ' H', N σ' H' → ∃ m', m' < m ∧ W m' σ' H') → rel s σ H →
      wp (cb s) (fun b => if b = true then wp (f s) (lpP (fun s' => ∀ σ' H', rel s' σ' H' → N σ' H') (fun s' => ∀ σ' H', rel s' σ' H' → D.nx σ' H') RT) E else ∀ σ H, rel s σ H → D.nx σ H) E →
      c σ H fun b H1 => if b = true then ∃ N : L2.St → Hp → Prop, (∀ σ' H', N σ' H' → ∃ m', m' < m ∧ W m' σ' H') ∧ tb { D with nx := N, ct := N, bk := D.nx } σ H1 else D.nx σ H1) : tWhile c tb D σ H := by
  refine ⟨fun m σ H => ∃ s, rel s σ H ∧ wp (whileL cb f m s) (leP (fun s => ∀ σ H, rel s σ H → D.nx σ H) RT) E, ⟨n, s0, h0, hm⟩, ?_⟩
  rintro m σ H ⟨s, hr, hw⟩
  cases m with
  | zero => exact hw.elim
  | succ m =>
    have hw := wp_bind (m := cb s) (f := fun b => if b = true then (f s).bind fun o => match o with
      | .nx s' => whileL cb f m s'
      | .bk s' => .ok (.dn s')
      | .rt r => .ok (.rt r) else .ok (.dn s)) hw
    refine hs s σ H (fun σ' H' => ∃ s', rel s' σ' H' ∧ wp (whileL cb f m s') (leP (fun s => ∀ σ H, rel s σ H → D.nx σ H) RT) E) _ _ (fun σ' H' h => ⟨m, Nat.lt_succ_self _, h⟩) hr (wp_imp hw (fun b hb => ?_) fun _ e => e)
    cases b with
    | true =>
      refine wp_imp (wp_bind hb) (fun o ho => ?_) fun _ e => e
      cases o with
      | nx s' => exact fun σ' H' r' => ⟨s', r', ho⟩
      | bk s' => exact ho
      | rt r => exact ho
    | false => exact hb
theorem wp_thn {σ ρ τ : Type} {o : Le σ ρ} {k : σ → R τ} {ret : ρ → R τ} {P : τ → Prop} (h : wp (o.thn k ret) P E) : leP (fun s => wp (k s) P E) (fun r => wp (ret r) P E) o := by
  cases o <;> exact h
theorem leP_imp {σ ρ : Type} {o : Le σ ρ} {dn dn' : σ → Prop} {rt rt' : ρ → Prop} (h : leP dn rt o) (h1 : ∀ s, dn s → dn' s) (h2 : ∀ r, rt r → rt' r) : leP dn' rt' o := by
  cases o with
  | dn s => exact h1 s h
  | rt r => exact h2 r h
end
/-- two statements in a row: what the second one wants is shown once -/
theorem seq_join {S : Type} {t u : TS} {D : Ends} {σ : L2.St} {H : Hp} {m : R S} {Z : S → Prop} {E : Er → Prop} (hm : wp m Z E) (rel : S → L2.St → Hp → Prop)
    (h : ∀ N : L2.St → Hp → Prop, (∀ s σ' H', rel s σ' H' → Z s → N σ' H') → wp m Z E → t { D with nx := N } σ H) (hk : ∀ s σ' H', rel s σ' H' → Z s → u D σ' H') : tSeq t u D σ H := h (u D) hk hm
/-- .. behind a loop that may be left by return -/
theorem seq_joinL {σt ρ : Type} {t u : TS} {D : Ends} {σ : L2.St} {H : Hp} {m : R (Le σt ρ)} {Z : σt → Prop} {RT : ρ → Prop} {E : Er → Prop} (hm : wp m (leP Z RT) E) (rel : σt → L2.St → Hp → Prop)
    (h : ∀ N : L2.St → Hp → Prop, wp m (leP (fun s => ∀ σ' H', rel s σ' H' → N σ' H') RT) E → t { D with nx := N } σ H) (hk : ∀ s σ' H', rel s σ' H' → Z s → u D σ' H') : tSeq t u D σ H :=
  h (u D) (wp_imp hm (fun _ ho => leP_imp ho (fun s hz σ' H' hr => hk s σ' H' hr hz) fun _ h => h) fun _ e => e)
theorem iteB {c : Bool} {A B : Prop} (h1 : c = true → A) (h2 : c = false → B) : if c = true then A else B := by
  cases c with
  | true => exact iteT (h1 rfl)
  | false => exact iteF (h2 rfl)
theorem wp_iteB {α : Type} {c : Bool} {m n : R α} {P : α → Prop} {E : Er → Prop} (h : wp (if c = true then m else n) P E) : if c = true then wp m P E else wp n P E := by
  cases c <;> exact h
theorem ifT {c : Bool} {A B : Prop} (e : c = true) (h : if c = true then A else B) : A := by
  rw [if_pos e] at h
  exact h
theorem ifF {c : Bool} {A B : Prop} (e : c = false) (h : if c = true then A else B) : B := by
  rw [e, if_neg (by decide)] at h
  exact h
/-! ### parts of an expression that are shown apart: and, or, if -/
def EvT (t : TT) (σ : L2.St) (H : Hp) (m : R Bool) (E : Er → Prop) : Prop := ∀ Q : Bool → Hp → Prop, wp m (fun c => ∀ H', Gr [] H H' → Q c H') E → t σ H Q
def EvV {α : Type} (r : Rp α) (t : TE) (σ : L2.St) (H : Hp) (m : R α) (E : Er → Prop) : Prop := ∀ Q : VK, wp m (fun x => ∀ v H', Gr [] H H' → r H' x v → Q v H') E → t σ H Q
section
variable {t u : TT} {σ : L2.St} {H : Hp} {E : Er → Prop} {m n : R Bool}
def andR (m n : R Bool) : R Bool := m.bind fun b => if b = true then n else .ok false
def orR (m n : R Bool) : R Bool := m.bind fun b => if b = true then .ok true else n
theorem ev_and (h1 : EvT t σ H m E) (h2 : ∀ H', Gr [] H H' → EvT u σ H' n E) : EvT (tAnd t u) σ H (andR m n) E := fun Q hw => h1 _ (wp_imp (wp_bind hw) (fun b hb H' g => by
  cases b with
  | true => exact iteT (h2 H' g Q (wp_imp hb (fun c hc H2 g2 => hc H2 (g.trans g2)) fun _ e => e))
  | false => exact iteF (hb H' g)) fun _ e => e)
theorem ev_or (h1 : EvT t σ H m E) (h2 : ∀ H', Gr [] H H' → EvT u σ H' n E) : EvT (tOr t u) σ H (orR m n) E := fun Q hw => h1 _ (wp_imp (wp_bind hw) (fun b hb H' g => by
  cases b with
  | true => exact iteT (hb H' g)
  | false => exact iteF (h2 H' g Q (wp_imp hb (fun c hc H2 g2 => hc H2 (g.trans g2)) fun _ e => e))) fun _ e => e)
theorem ev_not (h1 : EvT t σ H m E) : EvT (tNot t) σ H (m.bind fun b => .ok (!b)) E := fun Q hw => h1 _ (wp_bind hw)
theorem ev_andV {ta tb : TE} (h1 : EvV rB ta σ H m E) (h2 : ∀ H', Gr [] H H' → EvV rB tb σ H' n E) : EvV rB (tAndV ta tb) σ H (andR m n) E := fun Q hw => h1 _ (wp_imp (wp_bind hw) (fun b hb v H' g e => ⟨b, e, by
  cases b with
  | true => exact iteT (h2 H' g Q (wp_imp hb (fun c hc v2 H2 g2 e2 => hc v2 H2 (g.trans g2) e2) fun _ e => e))
  | false => exact iteF (hb (.bl false) H' g rfl)⟩) fun _ e => e)
theorem ev_orV {ta tb : TE} (h1 : EvV rB ta σ H m E) (h2 : ∀ H', Gr [] H H' → EvV rB tb σ H' n E) : EvV rB (tOrV ta tb) σ H (orR m n) E := fun Q hw => h1 _ (wp_imp (wp_bind hw) (fun b hb v H' g e => ⟨b, e, by
  cases b with
  | true => exact iteT (hb (.bl true) H' g rfl)
  | false => exact iteF (h2 H' g Q (wp_imp hb (fun c hc v2 H2 g2 e2 => hc v2 H2 (g.trans g2) e2) fun _ e => e))⟩) fun _ e => e)
theorem ev_notV {ta : TE} (h1 : EvV rB ta σ H m E) : EvV rB (tNotV ta) σ H (m.bind fun b => .ok (!b)) E := fun Q hw => h1 _ (wp_imp (wp_bind hw) (fun b hb v H' g e => ⟨b, e, hb (.bl (!b)) H' g rfl⟩) fun _ e => e)
theorem ev_if {α : Type} {r : Rp α} {ta tb : TE} {x y : R α} (h1 : EvT t σ H m E) (h2 : ∀ H', Gr [] H H' → EvV r ta σ H' x E) (h3 : ∀ H', Gr [] H H' → EvV r tb σ H' y E) : EvV r (tIf t ta tb) σ H (m.bind fun b => if b = true then x else y) E :=
  fun Q hw => h1 _ (wp_imp (wp_bind hw) (fun b hb H' g => by
    cases b with
    | true => exact iteT (h2 H' g Q (wp_imp hb (fun c hc v2 H2 g2 e2 => hc v2 H2 (g.trans g2) e2) fun _ e => e))
    | false => exact iteF (h3 H' g Q (wp_imp hb (fun c hc v2 H2 g2 e2 => hc v2 H2 (g.trans g2) e2) fun _ e => e))) fun _ e => e)
end
/-! ### a def, for its callers -/
def Cal (P : Program) (w : World) (K : PySem.W.Frag) (mg : Str → Option Value) (base : Heap) (CX : CXT) (k : Nat) (x : Str) (ps : List Str) (sp : Sp) : Prop :=
  ∃ (f : Addr) (fd : FuncData), FnOk P w K mg base CX k f fd ps sp ∧ mg x = some (.ref f) ∧ PySem.W.keepIn K (.ref f) = true ∧ Binds K fd ps []

/-- .. where the statement is the last of its block -/
theorem nx_join {S : Type} {t : TS} {D : Ends} {σ : L2.St} {H : Hp} {m : R S} {Z : S → Prop} {E : Er → Prop} (hm : wp m Z E) (rel : S → L2.St → Hp → Prop)
    (h : ∀ N : L2.St → Hp → Prop, (∀ s σ' H', rel s σ' H' → Z s → N σ' H') → wp m Z E → t { D with nx := N } σ H) (hk : ∀ s σ' H', rel s σ' H' → Z s → D.nx σ' H') : t D σ H := h D.nx hk hm
theorem nx_joinL {σt ρ : Type} {t : TS} {D : Ends} {σ : L2.St} {H : Hp} {m : R (Le σt ρ)} {Z : σt → Prop} {RT : ρ → Prop} {E : Er → Prop} (hm : wp m (leP Z RT) E) (rel : σt → L2.St → Hp → Prop)
    (h : ∀ N : L2.St → Hp → Prop, wp m (leP (fun s => ∀ σ' H', rel s σ' H' → N σ' H') RT) E → t { D with nx := N } σ H) (hk : ∀ s σ' H', rel s σ' H' → Z s → D.nx σ' H') : t D σ H :=
  h D.nx (wp_imp hm (fun _ ho => leP_imp ho (fun s hz σ' H' hr => hk s σ' H' hr hz) fun _ h => h) fun _ e => e)
theorem wp_le {σt ρ τ : Type} {m : R (Le σt ρ)} {k : σt → R τ} {ret : ρ → R τ} {P : τ → Prop} {E : Er → Prop} (h : wp (m.bind fun o => o.thn k ret) P E) : wp m (leP (fun s => wp (k s) P E) (fun r => wp (ret r) P E)) E :=
  wp_imp (wp_bind h) (fun _ h => wp_thn h) fun _ e => e
theorem wp_N {S : Type} {m : R S} {Z : S → Prop} {E : Er → Prop} {rel : S → L2.St → Hp → Prop} {N : L2.St → Hp → Prop} (hm : wp m Z E) (hN : ∀ s σ' H', rel s σ' H' → Z s → N σ' H') : wp m (fun s => ∀ σ' H', rel s σ' H' → N σ' H') E :=
  wp_imp hm (fun s hz σ' H' hr => hN s σ' H' hr hz) fun _ e => e
theorem all0 {P : Addr → Prop} : ∀ p ∈ ([] : List Addr), P p := fun _ m => absurd m (by simp)
theorem all1 {P : Addr → Prop} {a : Addr} {l : List Addr} (h : P a) (t : ∀ p ∈ l, P p) : ∀ p ∈ a :: l, P p := fun p m => by
  rcases List.mem_cons.mp m with rfl | m
  · exact h
  · exact t p m
theorem nin0 {a : Addr} : a ∉ ([] : List Addr) := by simp
theorem nin1 {a b : Addr} {l : List Addr} (h : a ≠ b) (t : a ∉ l) : a ∉ b :: l := fun m => by
  rcases List.mem_cons.mp m with e | m
  · exact h e
  · exact t m
theorem in0 {a : Addr} {l : List Addr} : a ∈ a :: l := List.mem_cons_self
theorem in1 {a b : Addr} {l : List Addr} (h : a ∈ l) : a ∈ b :: l := List.mem_cons_of_mem _ h
/-! ### more on data -/
theorem rO_some {α : Type} {r : Rp α} {H : Hp} {x : α} {v : V} (h : v ≠ .non ∧ r H x v) : rO r H (some x) v := h
def pgcd (a b : Int) : Int := ((Nat.gcd a.natAbs b.natAbs : Nat) : Int)
instance (i j : Int) : Decidable (CMul i j) := inferInstanceAs (Decidable (_ ∨ _))
instance (i j : Int) : Decidable (CDiv i j) := inferInstanceAs (Decidable (_ ∧ _))
instance (i j : Int) : Decidable (CDivN i j) := inferInstanceAs (Decidable (_ ∧ _))
section
variable {α β γ : Type} {K : PySem.W.Frag} {r : Rp α} {s : Rp β} {t : Rp γ} {H : Hp} {a : Addr} {xs : List α} {Q : VK} {E : Er → Prop}
theorem Ls.ty (h : Ls r H a xs) : tyV K "list" (.ref a) H := let ⟨_, h1, _⟩ := h; .inl ⟨rfl, _, .inl (.inl h1)⟩
theorem sorted_L {ns : List Int} (h : Lq K rI H a ns) (q : ∀ p H', H p = none → Gr [] H H' → Ls rI H' p (isort ns) → Q (.ref p) H') : ap3 (rSortedI K) [.ref a] H Q := by
  obtain ⟨vs, h1, h2⟩ := h
  have e := ints_of h2
  subst e
  refine ⟨a, ns, rfl, h1, fun ns' p pm sr n => ?_⟩
  have e : ns' = isort ns := sort_eq (pm.trans (isort_perm ns).symm) sr (isort_le ns)
  subst e
  exact q _ _ n (Gr.new n) ⟨_, upd_same, of_ints⟩
/-- an item is added to a comprehension's list -/
theorem lc_add [Imm r] {x : α} {y : V} {Nx : Hp → Prop} (h : Ls r H a xs) (hy : r H x y) (l : lenLt xs) (q : ∀ H', Gr [a] H H' → Ls r H' a (xs ++ [x]) → Nx H') : ∃ acc, H a = some (.lst acc) ∧ acc.length < sizeLine ∧ Nx (upd H a (.lst (acc ++ [y]))) := by
  obtain ⟨vs, h1, h2⟩ := h
  exact ⟨vs, h1, by rw [← Paired.length h2]; exact l, q _ (Gr.set h1) ⟨_, upd_same, Paired.app (Paired.imm (Gr.set h1) h2) (.cons (Imm.mono (Gr.set h1) hy) .nil)⟩⟩
theorem chain_I {X Y Z : Int} {p q : Int → Int → Bool} {ta tb tc : TE} {σ : L2.St} (ha : ∀ Q : VK, Q (.int X) H → ta σ H Q) (hb : ∀ Q : VK, Q (.int Y) H → tb σ H Q) (hc : ∀ Q : VK, Q (.int Z) H → tc σ H Q)
    (h : Q (.bl (p X Y && q Y Z)) H) : tChain (rI0 fun i j => .bl (p i j)) (rI0 fun i j => .bl (q i j)) ta tb tc σ H Q := by
  refine ha _ (hb _ ⟨_, _, rfl, rfl, _, rfl, ?_⟩)
  cases e : p X Y with
  | true =>
    rw [e] at h
    exact iteT (hc _ ⟨_, _, rfl, rfl, h⟩)
  | false =>
    rw [e] at h
    exact iteF h
/-! ### == of data -/
theorem beq_dec {α : Type} [BEq α] [LawfulBEq α] [DecidableEq α] (a b : α) : (a == b) = decide (a = b) := by
  rw [Bool.eq_iff_iff, beq_iff_eq, decide_eq_true_eq]
structure DRep {α : Type} [DecidableEq α] (K : PySem.W.Frag) (r : Rp α) where
  enc : α → PyData
  dp : ∀ {H : Hp} {x : α} {v : V}, r H x v → Dp K H v (enc x)
  lay : ∀ x, (enc x).canLay0 = true
  dep : Nat
  dep_le : ∀ x, (enc x).depth ≤ dep
  eqv : ∀ x y, PyData.eqv (enc x) (enc y) = decide (x = y)
def DRep.int (K : PySem.W.Frag) : DRep K rI := ⟨.int, fun h => by rw [show _ = V.int _ from h]; exact .int _, fun _ => by rw [PyData.canLay0], 0, fun _ => by rw [PyData.depth]; exact Nat.le_refl _, fun a b => by
  simp only [PyData.eqv]
  exact beq_dec a b⟩
def DRep.bool (K : PySem.W.Frag) : DRep K rB := ⟨.bool, fun h => by rw [show _ = V.bl _ from h]; exact .bl _, fun _ => by rw [PyData.canLay0], 0, fun _ => by rw [PyData.depth]; exact Nat.le_refl _, fun a b => by
  simp only [PyData.eqv]
  exact beq_dec a b⟩
section
variable [DecidableEq α] [DecidableEq β] [DecidableEq γ]
theorem DRep.all (d : DRep K r) : ∀ {xs : List α} {vs : List V}, Paired (r H) xs vs → DpAll K H vs (xs.map d.enc)
  | _, _, .nil => .nil
  | _, _, .cons h t => .cons (d.dp h) (DRep.all d t)
theorem DRep.layA (d : DRep K r) : ∀ xs : List α, PyData.canLayAll0 (xs.map d.enc) = true
  | [] => by rw [List.map_nil, PyData.canLayAll0]
  | x :: xs => by
    rw [List.map_cons, PyData.canLayAll0, d.lay x, DRep.layA d xs]
    rfl
theorem DRep.depA (d : DRep K r) : ∀ xs : List α, PyData.depthAll (xs.map d.enc) ≤ d.dep
  | [] => by
    rw [List.map_nil, PyData.depthAll]
    exact Nat.zero_le _
  | x :: xs => by
    rw [List.map_cons, PyData.depthAll]
    exact Nat.max_le.mpr ⟨d.dep_le x, DRep.depA d xs⟩
theorem DRep.eqvA (d : DRep K r) : ∀ xs ys : List α, PyData.eqvAll (xs.map d.enc) (ys.map d.enc) = decide (xs = ys)
  | [], [] => by simp only [List.map_nil, PyData.eqvAll, decide_true]
  | [], _ :: _ => by simp [PyData.eqvAll]
  | _ :: _, [] => by simp [PyData.eqvAll]
  | x :: xs, y :: ys => by
    rw [List.map_cons, List.map_cons, PyData.eqvAll, d.eqv x y, DRep.eqvA d xs ys, ← Bool.decide_and]
    exact decide_eq_decide.mpr (by rw [List.cons.injEq])
def DRep.tup (d : DRep K r) : DRep K (rT K r) where
  enc xs := .tuple (xs.map d.enc)
  dp := fun h => by
    obtain ⟨a, rfl, vs, h1, h2⟩ := h
    exact .tup h1 (d.all h2)
  lay xs := by rw [PyData.canLay0]; exact d.layA xs
  dep := d.dep + 1
  dep_le xs := by rw [PyData.depth]; exact Nat.succ_le_succ (d.depA xs)
  eqv xs ys := by simp only [PyData.eqv]; exact d.eqvA xs ys
def rL (K : PySem.W.Frag) (r : Rp α) : Rp (List α) := fun H xs v => ∃ a, v = .ref a ∧ Lq K r H a xs
theorem rL_of (h : Lq K r H a xs) : rL K r H xs (.ref a) := ⟨a, rfl, h⟩
def DRep.lst (d : DRep K r) : DRep K (rL K r) where
  enc xs := .list (xs.map d.enc)
  dp := fun h => by
    obtain ⟨a, rfl, vs, h1, h2⟩ := h
    exact .lst h1 (d.all h2)
  lay xs := by rw [PyData.canLay0]; exact d.layA xs
  dep := d.dep + 1
  dep_le xs := by rw [PyData.depth]; exact Nat.succ_le_succ (d.depA xs)
  eqv xs ys := by simp only [PyData.eqv]; exact d.eqvA xs ys
def DRep.pair (d : DRep K r) (e : DRep K s) : DRep K (rP K r s) where
  enc p := .tuple [d.enc p.1, e.enc p.2]
  dp := fun h => by
    obtain ⟨a, x, y, rfl, h, h1, h2⟩ := h
    exact .tup h (.cons (d.dp h1) (.cons (e.dp h2) .nil))
  lay p := by simp [PyData.canLay0, PyData.canLayAll0, d.lay, e.lay]
  dep := max d.dep e.dep + 1
  dep_le p := by
    have := d.dep_le p.1
    have := e.dep_le p.2
    simp only [PyData.depth, PyData.depthAll]
    omega
  eqv p q := by
    obtain ⟨a, b⟩ := p
    obtain ⟨c, f⟩ := q
    simp only [PyData.eqv, PyData.eqvAll, d.eqv, e.eqv, Bool.and_true, ← Bool.decide_and]
    exact decide_eq_decide.mpr (by rw [Prod.mk.injEq])
theorem DRep.sh (d : DRep K r) (hl : d.dep ≤ 64) (x : α) : SeqAt.shaped (d.enc x) = true := by
  unfold SeqAt.shaped
  rw [d.lay x, Bool.true_and]
  exact decide_eq_true (Nat.le_trans (d.dep_le x) hl)
theorem eq_D (d : DRep K r) {x y : α} {v w : V} (hx : r H x v) (hy : r H y w) (q : Q (.bl (decide (x = y))) H) (hl : d.dep ≤ 64 := by exact Nat.le_of_ble_eq_true rfl) : rEqD K v w H Q :=
  ⟨_, _, d.dp hx, d.dp hy, d.sh hl x, d.sh hl y, by rw [d.eqv]; exact q⟩
theorem ne_D (d : DRep K r) {x y : α} {v w : V} (hx : r H x v) (hy : r H y w) (q : Q (.bl (!decide (x = y))) H) (hl : d.dep ≤ 64 := by exact Nat.le_of_ble_eq_true rfl) : rNeD K v w H Q :=
  ⟨_, _, d.dp hx, d.dp hy, d.sh hl x, d.sh hl y, by rw [d.eqv]; exact q⟩
end
/-! ### comprehensions over lists, tuples, ranges; A: the lists that the elements change, st: what else is carried -/
theorem lc_lst {σt : Type} {s0 : σt} {f : σt → α → R σt} {Z : σt → Prop} {g : TG} {tt : TT} {te : TE} {own : List Nat} {σ : L2.St} {H1 : Hp} {D : Addr} {Qd : Hp → Prop} (rel : σt → Hp → Prop) {vs : List V} (hp : Paired (r H1) xs vs)
    (hm : wp (foldR f s0 xs) Z E) (h0 : rel s0 (upd H1 D (.lst []))) (hl : ∀ s H, rel s H → SqL K H a vs)
    (hs : ∀ (x : α) (v : V) (s : σt) (H : Hp) (Nx : Hp → Prop), r H1 x v → rel s H → wp (f s x) (fun s' => ∀ H', rel s' H' → Nx H') E →
      g (v) (wipe σ own) H fun σ2 H2 => wipe σ2 own = wipe σ own ∧ tt σ2 H2 fun b H3 => if b = true then te σ2 H3 fun y H4 => ∃ acc, H4 D = some (.lst acc) ∧ acc.length < sizeLine ∧ Nx (upd H4 D (.lst (acc ++ [y]))) else Nx H3)
    (hd : ∀ s H, rel s H → Z s → Qd H) :
    ∃ W : Nat → Nat → Hp → Prop, (∃ m, W 0 m (upd H1 D (.lst []))) ∧ ∀ i m H, W i m H →
      ((Itl K a).stop i H ∧ Qd H) ∨ ((Itl K a).go i H ∧ ∃ Nx : Hp → Prop, (∀ H', Nx H' → ∃ m', m' < m ∧ W (i + 1) m' H') ∧ ∀ x H', (Itl K a).yld i H x H' → g x (wipe σ own) H' fun σ2 H2 => wipe σ2 own = wipe σ own ∧ tt σ2 H2 fun b H3 =>
        if b = true then te σ2 H3 fun y H4 => ∃ acc, H4 D = some (.lst acc) ∧ acc.length < sizeLine ∧ Nx (upd H4 D (.lst (acc ++ [y]))) else Nx H3) := by
  refine L2.lc_list (K := K) (a := a) (xs := vs) (fun i H => ∃ s, rel s H ∧ wp (foldR f s (xs.drop i)) Z E) ⟨s0, h0, hm⟩ (fun i H _ ⟨s, hr, _⟩ => hl s H hr) ?_ ?_
  · rintro i v H hi ⟨s, hr, hw⟩
    have hi' : i < xs.length := by rw [Paired.length hp]; exact (List.getElem?_eq_some_iff.mp hi).1
    have hw := foldR_step hi' hw
    exact hs xs[i] v s H _ (Paired.get2 hp hi hi') hr (wp_imp hw (fun s' hs' => fun H' r' => ⟨s', r', hs'⟩) fun _ e => e)
  · rintro H ⟨s, hr, hw⟩
    exact hd s H hr (foldR_end (by rw [Paired.length hp]; exact Nat.le_refl _) hw)
theorem lc_tup {σt : Type} {s0 : σt} {f : σt → α → R σt} {Z : σt → Prop} {g : TG} {tt : TT} {te : TE} {own : List Nat} {σ : L2.St} {H1 : Hp} {D : Addr} {Qd : Hp → Prop} (rel : σt → Hp → Prop) {vs : List V} (hp : Paired (r H1) xs vs)
    (hm : wp (foldR f s0 xs) Z E) (h0 : rel s0 (upd H1 D (.lst []))) (hl : ∀ s H, rel s H → SqT K H a vs)
    (hs : ∀ (x : α) (v : V) (s : σt) (H : Hp) (Nx : Hp → Prop), r H1 x v → rel s H → wp (f s x) (fun s' => ∀ H', rel s' H' → Nx H') E →
      g (v) (wipe σ own) H fun σ2 H2 => wipe σ2 own = wipe σ own ∧ tt σ2 H2 fun b H3 => if b = true then te σ2 H3 fun y H4 => ∃ acc, H4 D = some (.lst acc) ∧ acc.length < sizeLine ∧ Nx (upd H4 D (.lst (acc ++ [y]))) else Nx H3)
    (hd : ∀ s H, rel s H → Z s → Qd H) :
    ∃ W : Nat → Nat → Hp → Prop, (∃ m, W 0 m (upd H1 D (.lst []))) ∧ ∀ i m H, W i m H →
      ((Itt K a).stop i H ∧ Qd H) ∨ ((Itt K a).go i H ∧ ∃ Nx : Hp → Prop, (∀ H', Nx H' → ∃ m', m' < m ∧ W (i + 1) m' H') ∧ ∀ x H', (Itt K a).yld i H x H' → g x (wipe σ own) H' fun σ2 H2 => wipe σ2 own = wipe σ own ∧ tt σ2 H2 fun b H3 =>
        if b = true then te σ2 H3 fun y H4 => ∃ acc, H4 D = some (.lst acc) ∧ acc.length < sizeLine ∧ Nx (upd H4 D (.lst (acc ++ [y]))) else Nx H3) := by
  refine L2.lc_tup (K := K) (a := a) (xs := vs) (fun i H => ∃ s, rel s H ∧ wp (foldR f s (xs.drop i)) Z E) ⟨s0, h0, hm⟩ (fun i H _ ⟨s, hr, _⟩ => hl s H hr) ?_ ?_
  · rintro i v H hi ⟨s, hr, hw⟩
    have hi' : i < xs.length := by rw [Paired.length hp]; exact (List.getElem?_eq_some_iff.mp hi).1
    have hw := foldR_step hi' hw
    exact hs xs[i] v s H _ (Paired.get2 hp hi hi') hr (wp_imp hw (fun s' hs' => fun H' r' => ⟨s', r', hs'⟩) fun _ e => e)
  · rintro H ⟨s, hr, hw⟩
    exact hd s H hr (foldR_end (by rw [Paired.length hp]; exact Nat.le_refl _) hw)
theorem lc_rng {σt : Type} {s0 : σt} {f : σt → Int → R σt} {Z : σt → Prop} {g : TG} {tt : TT} {te : TE} {own : List Nat} {σ : L2.St} {H1 : Hp} {D : Addr} {Qd : Hp → Prop} (rel : σt → Hp → Prop) {lo : Int} {n : Nat}
    (hm : wp (foldR f s0 (rng lo n)) Z E) (h0 : rel s0 (upd H1 D (.lst [])))
    (hs : ∀ (x : Int) (s : σt) (H : Hp) (Nx : Hp → Prop), rel s H → wp (f s x) (fun s' => ∀ H', rel s' H' → Nx H') E →
      g (.int x) (wipe σ own) H fun σ2 H2 => wipe σ2 own = wipe σ own ∧ tt σ2 H2 fun b H3 => if b = true then te σ2 H3 fun y H4 => ∃ acc, H4 D = some (.lst acc) ∧ acc.length < sizeLine ∧ Nx (upd H4 D (.lst (acc ++ [y]))) else Nx H3)
    (hd : ∀ s H, rel s H → Z s → Qd H) :
    ∃ W : Nat → Nat → Hp → Prop, (∃ m, W 0 m (upd H1 D (.lst []))) ∧ ∀ i m H, W i m H →
      ((Itr lo n).stop i H ∧ Qd H) ∨ ((Itr lo n).go i H ∧ ∃ Nx : Hp → Prop, (∀ H', Nx H' → ∃ m', m' < m ∧ W (i + 1) m' H') ∧ ∀ x H', (Itr lo n).yld i H x H' → g x (wipe σ own) H' fun σ2 H2 => wipe σ2 own = wipe σ own ∧ tt σ2 H2 fun b H3 =>
        if b = true then te σ2 H3 fun y H4 => ∃ acc, H4 D = some (.lst acc) ∧ acc.length < sizeLine ∧ Nx (upd H4 D (.lst (acc ++ [y]))) else Nx H3) := by
  refine L2.lc_range (lo := lo) (n := n) (fun i H => ∃ s, rel s H ∧ wp (foldR f s ((rng lo n).drop i)) Z E) ⟨s0, h0, hm⟩ ?_ ?_
  · rintro i H hi ⟨s, hr, hw⟩
    have hi' : i < (rng lo n).length := by rw [rng_length]; exact hi
    have hw := foldR_step hi' hw
    rw [rng_get lo n i hi'] at hw
    exact hs (lo + i) s H _ hr (wp_imp hw (fun s' hs' => fun H' r' => ⟨s', r', hs'⟩) fun _ e => e)
  · rintro H ⟨s, hr, hw⟩
    exact hd s H hr (foldR_end (by rw [rng_length]; exact Nat.le_refl _) hw)
end

theorem iteB' {c : Bool} {A B : Prop} (h2 : c = false → B) (h1 : c = true → A) : if c = true then A else B := iteB h1 h2
def rgOk (j : Int) : Prop := -(2 ^ 62) ≤ j ∧ j < 2 ^ 62
instance (j : Int) : Decidable (rgOk j) := inferInstanceAs (Decidable (_ ∧ _))
def rg2Ok (i j : Int) : Prop := -(2 ^ 62) ≤ i ∧ i < 2 ^ 62 ∧ -(2 ^ 62) ≤ j ∧ j < 2 ^ 62
instance (i j : Int) : Decidable (rg2Ok i j) := inferInstanceAs (Decidable (_ ∧ _))

/-! ### the readings' parts, one by one -/
section
variable {D : Ends} {σ : L2.St} {H : Hp} {Q : VK} {K : PySem.W.Frag} {ta tb te : TE} {t u : TS} {tc : TT} {l : TA} {i j k : Nat} {v w : V}
theorem rd_var (e : σ[i]? = some (some v)) (h : Q v H) : tVar i σ H Q := ⟨v, e, h⟩
theorem rd_c (h : Q v H) : tC v σ H Q := h
theorem rd_op {r : R2} (h : ta σ H fun x H1 => tb σ H1 fun y H2 => r x y H2 Q) : tOp r ta tb σ H Q := h
theorem rd_rI0 {g : Int → Int → V} {a b : Int} (h : Q (g a b) H) : rI0 g (.int a) (.int b) H Q := ⟨a, b, rfl, rfl, h⟩
theorem rd_rI {C : Int → Int → Prop} {g : Int → Int → V} {a b : Int} (c : C a b) (h : Q (g a b) H) : L2.rI C g (.int a) (.int b) H Q := ⟨a, b, rfl, rfl, c, h⟩
theorem rd_un {r : V → Hp → VK → Prop} (h : ta σ H fun x H1 => r x H1 Q) : tUn r ta σ H Q := h
theorem rd_rU {g : Int → V} {a : Int} (h : Q (g a) H) : rU g (.int a) H Q := ⟨a, rfl, h⟩
def k2 (p : Int → Int → Bool) (x y : V) (H : Hp) (Q : VK) : Prop := ∃ i j, x = .int i ∧ y = .int j ∧ Q (.bl (p i j)) H
theorem rd_k2 {p : Int → Int → Bool} {a b : Int} (h : Q (.bl (p a b)) H) : k2 p (.int a) (.int b) H Q := ⟨a, b, rfl, rfl, h⟩
theorem rd_cmp {p : Int → Int → Bool} (h : ta σ H fun x H1 => tb σ H1 fun y H2 => k2 p x y H2 Q) : tCmp p ta tb σ H Q := h
def kB (x : V) (H : Hp) (Q : Bool → Hp → Prop) : Prop := ∃ c, x = .bl c ∧ Q c H
theorem rd_kB {c : Bool} {Q : Bool → Hp → Prop} (h : Q c H) : kB (.bl c) H Q := ⟨c, rfl, h⟩
theorem rd_B {Q : Bool → Hp → Prop} (h : ta σ H fun x H1 => kB x H1 Q) : tB ta σ H Q := h
theorem rd_T {Q : Bool → Hp → Prop} (h : ta σ H fun x H1 => kB x H1 Q) : tTest ta σ H Q := h
def kN (x : V) (H : Hp) (Q : VK) : Prop := ∃ c, x = .bl c ∧ Q (.bl (!c)) H
theorem rd_kN {c : Bool} (h : Q (.bl (!c)) H) : kN (.bl c) H Q := ⟨c, rfl, h⟩
theorem rd_notV (h : ta σ H fun x H1 => kN x H1 Q) : tNotV ta σ H Q := h
theorem rd_not {Q : Bool → Hp → Prop} (h : tc σ H fun c H1 => Q (!c) H1) : tNot tc σ H Q := h
theorem rd_rEq {x y : V} (s : scal x y = true) (h : Q (.bl (decide (x = y))) H) : rEq x y H Q := ⟨s, h⟩
theorem rd_rNe {x y : V} (s : scal x y = true) (h : Q (.bl (!decide (x = y))) H) : rNe x y H Q := ⟨s, h⟩
theorem rd_call {sp : Sp} {dvs : List V} {E : XK} (h : l σ H fun vs H1 => sp (vs ++ dvs) H1 Q E) : tCall sp dvs E l σ H Q := h
theorem rd_cb {r : List V → Hp → VK → Prop} (h : l σ H fun vs H1 => ap3 r vs H1 Q) : tCB r l σ H Q := h
theorem rd_nil {Q : List V → Hp → Prop} (h : Q [] H) : tNil σ H Q := h
theorem rd_cons {Q : List V → Hp → Prop} (h : ta σ H fun x H1 => l σ H1 fun xs H2 => Q (x :: xs) H2) : tCons ta l σ H Q := h
theorem rd_tup (h : l σ H fun xs H1 => aTup xs H1 Q) : tTup l σ H Q := h
theorem rd_lst (h : l σ H fun xs H1 => aLst xs H1 Q) : tLst l σ H Q := h
theorem rd_sl {r : V → Option Int → Option Int → Hp → VK → Prop} {tl th : TO} (h : te σ H fun x H1 => tl σ H1 fun l H2 => th σ H2 fun u H3 => r x l u H3 Q) : tSl r te tl th σ H Q := h
theorem rd_np {Q : Option Int → Hp → Prop} (h : Q none H) : tNoPart σ H Q := h
def kI (x : V) (H : Hp) (Q : Option Int → Hp → Prop) : Prop := ∃ i, x = .int i ∧ Q (some i) H
theorem rd_kI {a : Int} {Q : Option Int → Hp → Prop} (h : Q (some a) H) : kI (.int a) H Q := ⟨a, rfl, h⟩
theorem rd_part {Q : Option Int → Hp → Prop} (h : te σ H fun x H1 => kI x H1 Q) : tPart te σ H Q := h
theorem rd_bm {T : String} {r : V → List V → Hp → VK → Prop} (h : te σ H fun x H1 => tyV K T x H1 ∧ l σ H1 fun xs H2 => r x xs H2 Q) : tBM K T r te l σ H Q := h
theorem rd_bm0 {T : String} {r : V → List V → Hp → VK → Prop} (h : te σ H fun x H1 => tyV K T x H1 ∧ r x [] H1 Q) : tBM0 K T r te σ H Q := h
theorem rd_il {R : It → Hp → Prop} (h : te σ H fun x H1 => ∃ a, x = .ref a ∧ (∃ xs, SqL K H1 a xs) ∧ R (Itl K a) H1) : iList K te σ H R := h
theorem rd_it {R : It → Hp → Prop} (h : te σ H fun x H1 => ∃ a, x = .ref a ∧ (∃ xs, SqT K H1 a xs) ∧ R (Itt K a) H1) : iTup K te σ H R := h
theorem rd_r1 {R : It → Hp → Prop} (h : l σ H fun vs H1 => ∃ j : Int, vs = [.int j] ∧ -(2 ^ 62) ≤ j ∧ j < 2 ^ 62 ∧ R (Itr 0 j.toNat) H1) : iRng1 l σ H R := h
theorem rd_r2 {R : It → Hp → Prop} (h : l σ H fun vs H1 => ∃ i j : Int, vs = [.int i, .int j] ∧ (-(2 ^ 62) ≤ i ∧ i < 2 ^ 62 ∧ -(2 ^ 62) ≤ j ∧ j < 2 ^ 62) ∧ R (Itr i (j - i).toNat) H1) : iRng2 l σ H R := h
-- statements
theorem rd_seq (h : t ⟨u D, D.rt, D.bk, D.ct⟩ σ H) : tSeq t u D σ H := h
theorem rd_nx {n b c : L2.St → Hp → Prop} {r : VK} (h : n σ H) : Ends.nx ⟨n, r, b, c⟩ σ H := h
theorem rd_next (h : D.nx σ H) : tNext D σ H := h
theorem rd_asg {g : TG} (h : te σ H fun x H1 => g x σ H1 D.nx) : tAsg te g D σ H := h
theorem rd_gn {Q : L2.St → Hp → Prop} (h : Q (σ.set i (some v)) H) : gName i v σ H Q := h
theorem rd_ret (h : te σ H D.rt) : tRet te D σ H := h
theorem rd_if (h : tc σ H fun b H1 => if b = true then t D σ H1 else u D σ H1) : tIfS tc t u D σ H := h
theorem rd_drop (h : te σ H fun _ H1 => D.nx σ H1) : tDrop te D σ H := h
def kp2 (i j : Nat) (vs : List V) (σ : L2.St) (H : Hp) (Q : L2.St → Hp → Prop) : Prop := ∃ v w, vs = [v, w] ∧ Q ((σ.set i (some v)).set j (some w)) H
theorem rd_kp2 {Q : L2.St → Hp → Prop} {a b : V} (h : Q ((σ.set i (some a)).set j (some b)) H) : kp2 i j [a, b] σ H Q := ⟨a, b, rfl, h⟩
theorem rd_par (h : l σ H fun vs H1 => kp2 i j vs σ H1 D.nx) : tPar i j l D σ H := h
def kp3 (i j k : Nat) (vs : List V) (σ : L2.St) (H : Hp) (Q : L2.St → Hp → Prop) : Prop := ∃ u v w, vs = [u, v, w] ∧ Q (((σ.set i (some u)).set j (some v)).set k (some w)) H
theorem rd_kp3 {Q : L2.St → Hp → Prop} {a b c : V} (h : Q (((σ.set i (some a)).set j (some b)).set k (some c)) H) : kp3 i j k [a, b, c] σ H Q := ⟨a, b, c, rfl, h⟩
theorem rd_par3 (h : l σ H fun vs H1 => kp3 i j k vs σ H1 D.nx) : tPar3 i j k l D σ H := h
theorem rd_aug {ti : TIp} (e : σ[i]? = some (some v)) (h : te σ H fun y H1 => ti v y H1 fun z H2 => D.nx (σ.set i (some z)) H2) : tAug i te ti D σ H := ⟨v, e, h⟩
theorem rd_for {wi : TI} {g : TG} {tb : TS} (h : wi σ H fun J H1 => ∃ W : Nat → Nat → L2.St → Hp → Prop, (∃ m, W 0 m σ H1) ∧ ∀ i m σ H, W i m σ H →
  (J.stop i H ∧ D.nx σ H) ∨ (J.go i H ∧ ∃ N : L2.St → Hp → Prop, (∀ σ' H', N σ' H' → ∃ m', m' < m ∧ W (i + 1) m' σ' H') ∧ ∀ x H', J.yld i H x H' → g x σ H' fun σ2 H2 => tb { D with nx := N, ct := N, bk := D.nx } σ2 H2)) : tFor wi g tb D σ H := h
theorem rd_gt {n : Nat} {g : TGs} {a : Addr} {xs : List V} {Q : L2.St → Hp → Prop} (h : SqT K H a xs) (e : xs.length = n) (q : g xs σ H Q) : gTup K n g (.ref a) σ H Q := ⟨a, xs, rfl, h, e, q⟩
theorem rd_gc {t : TG} {u : TGs} {xs : List V} {Q : L2.St → Hp → Prop} (h : t v σ H fun σ' H' => u xs σ' H' Q) : gCons t u (v :: xs) σ H Q := ⟨v, xs, rfl, h⟩
theorem rd_g0 {Q : L2.St → Hp → Prop} (h : Q σ H) : gNil [] σ H Q := ⟨rfl, h⟩
theorem rd_gs {to ti : TE} {st : TSet} {Q : L2.St → Hp → Prop} (h : to σ H fun o H1 => ti σ H1 fun i H2 => st o i v H2 fun H3 => Q σ H3) : gSub to ti st v σ H Q := h
end

section
variable {X : Cx}
theorem op_eqI : OpR X (compareOp .Eq) (rI0 fun i j => .bl (decide (i = j))) := opB0 fun _ _ _ _ _ _ _ q => eq_int (by rw [Bool.beq_eq_decide_eq]; exact q)
theorem op_neI : OpR X (compareOp .NotEq) (rI0 fun i j => .bl (!decide (i = j))) := opB0 fun _ _ _ _ _ _ _ q => ne_int (by rw [bne, Bool.beq_eq_decide_eq]; exact q)
end

theorem rd_lc {wi : TI} {g : TG} {tt : TT} {te : TE} {vs : List Nat} {σ : L2.St} {H : Hp} {Q : VK} (h : wi σ H fun J H1 => ∀ D, H1 D = none → ∃ W : Nat → Nat → Hp → Prop, (∃ m, W 0 m (upd H1 D (.lst []))) ∧ ∀ i m H, W i m H →
  (J.stop i H ∧ Q (.ref D) H) ∨ (J.go i H ∧ ∃ Nx : Hp → Prop, (∀ H', Nx H' → ∃ m', m' < m ∧ W (i + 1) m' H') ∧ ∀ x H', J.yld i H x H' → g x (wipe σ vs) H' fun σ2 H2 => wipe σ2 vs = wipe σ vs ∧ tt σ2 H2 fun b H3 =>
    if b = true then te σ2 H3 fun y H4 => ∃ acc, H4 D = some (.lst acc) ∧ acc.length < sizeLine ∧ Nx (upd H4 D (.lst (acc ++ [y]))) else Nx H3)) : tLc wi g tt te vs σ H Q := h
theorem rd_yes {σ : L2.St} {H : Hp} {Q : Bool → Hp → Prop} (h : Q true H) : tYes σ H Q := h

/-! ### isinstance; membership; is None -/
def rA : Rp V := fun _ x v => v = x
instance : Imm rA := ⟨fun _ h => h⟩
section
variable {α : Type} {K : PySem.W.Frag} {r : Rp α} {H : Hp} {Q : VK} {x : V} {a : Addr} {xs : List α} {S T : String} {b : Bool}
theorem isi_ty (hx : TyX K H x (.type S)) (e : kitB S T = some b) (q : Q (.bl b) H) : ap3 (rIsi K) [x, .ty T] H Q := ⟨x, .ty T, .type S, .type T, b, rfl, .ty T, hx, kit_ty e, q⟩
theorem ty_int {i : Int} : TyX K H (.int i) (.type "int") := .base (.int i)
theorem ty_bl {i : Bool} : TyX K H (.bl i) (.type "bool") := .base (.bl i)
theorem ty_str {i : Str} : TyX K H (.str i) (.type "str") := .base (.str i)
theorem ty_sqt {vs : List V} (h : SqT K H a vs) : TyX K H (.ref a) (.type "tuple") := by
  rcases h with (h | ⟨o, h⟩) | ⟨o, its, n, h, c, _⟩
  · exact .base (.tup h)
  · exact .fTuple h
  · exact .kTuple h c
theorem ty_T {v : V} (h : rT K r H xs v) : TyX K H v (.type "tuple") := by
  obtain ⟨a, rfl, vs, h1, _⟩ := h
  exact ty_sqt h1
theorem ty_P {β : Type} {s : Rp β} {p : α × β} {v : V} (h : rP K r s H p v) : TyX K H v (.type "tuple") := by
  obtain ⟨a, x, y, rfl, h, _⟩ := h
  exact ty_sqt h
theorem ty_L (h : Ls r H a xs) : TyX K H (.ref a) (.type "list") := by
  obtain ⟨vs, h1, _⟩ := h
  exact .base (.lst h1)
/-- a scalar of unknown kind -/
def scalV : V → Bool
  | .non => true | .bl _ => true | .int _ => true | .str _ => true
  | _ => false
def isIntV : V → Bool
  | .int _ => true | .bl _ => true
  | _ => false
def isBoolV : V → Bool
  | .bl _ => true
  | _ => false
theorem isi_intV (s : scalV x = true) (q : Q (.bl (isIntV x)) H) : ap3 (rIsi K) [x, .ty "int"] H Q := by
  cases x with
  | non => exact isi_ty (.base .non) (b := false) (by decide +kernel) q
  | bl i => exact isi_ty ty_bl (b := true) (by decide +kernel) q
  | int i => exact isi_ty ty_int (b := true) (by decide +kernel) q
  | str i => exact isi_ty ty_str (b := false) (by decide +kernel) q
  | _ => exact absurd (show false = true from s) Bool.false_ne_true
theorem isi_boolV (s : scalV x = true) (q : Q (.bl (isBoolV x)) H) : ap3 (rIsi K) [x, .ty "bool"] H Q := by
  cases x with
  | non => exact isi_ty (.base .non) (b := false) (by decide +kernel) q
  | bl i => exact isi_ty ty_bl (b := true) (by decide +kernel) q
  | int i => exact isi_ty ty_int (b := false) (by decide +kernel) q
  | str i => exact isi_ty ty_str (b := false) (by decide +kernel) q
  | _ => exact absurd (show false = true from s) Bool.false_ne_true
def rIsN : R2 := fun x y H Q => y = .non ∧ Q (.bl (decide (x = .non))) H
def rNotN : R2 := fun x y H Q => y = .non ∧ Q (.bl (!decide (x = .non))) H
theorem op_isN' {X : Cx} : OpR X (compareOp .Is) rIsN := op_isN
theorem op_notN' {X : Cx} : OpR X (compareOp .IsNot) rNotN := op_notN
theorem isN_opt {v : V} {o : Option α} (h : rO r H o v) (q : Q (.bl o.isNone) H) : rIsN v .non H Q := by
  refine ⟨rfl, ?_⟩
  cases o with
  | none =>
    rw [show v = V.non from h]
    exact q
  | some a =>
    rw [decide_eq_false h.1]
    exact q
theorem notN_opt {v : V} {o : Option α} (h : rO r H o v) (q : Q (.bl o.isSome) H) : rNotN v .non H Q := by
  refine ⟨rfl, ?_⟩
  cases o with
  | none =>
    rw [show v = V.non from h]
    exact q
  | some a =>
    rw [decide_eq_false h.1]
    exact q
end

section
variable {H : Hp} {Q : VK} {i j : Int}
theorem rd_abs (h : Q (.int (pabs i)) H) : ap3 (fun xs H Q => ∃ i, xs = [.int i] ∧ Q (.int (if i < 0 then -i else i)) H) [.int i] H Q := ⟨i, rfl, h⟩
theorem rd_int (h : Q (.int i) H) : ap3 (fun xs H Q => (∃ i, xs = [.int i] ∧ Q (.int i) H) ∨ ∃ k, xs = [.bl k] ∧ Q (.int (if k then 1 else 0)) H) [.int i] H Q := .inl ⟨i, rfl, h⟩
theorem rd_gcd (h : Q (.int (pgcd i j)) H) : ap3 rGcd [.int i, .int j] H Q := ⟨i, j, rfl, h⟩
theorem rd_ipI {f : Int → Int → Int} (h : Q (.int (f i j)) H) : ipI f (.int i) (.int j) H Q := ⟨i, j, rfl, rfl, h⟩
end

theorem cat_T {α : Type} {K : PySem.W.Frag} {r : Rp α} [Imm r] {H : Hp} {Q : VK} {xs ys : List α} {v w : V} (hx : rT K r H xs v) (hy : rT K r H ys w) (ne : xs.isEmpty = false) (l : lenOk (xs ++ ys)) (q : ∀ v H', Gr [] H H' → rT K r H' (xs ++ ys) v → Q v H') : rCatT K v w H Q := by
  obtain ⟨a, rfl, vs, h1, h2⟩ := hx
  obtain ⟨b, rfl, ws, h3, h4⟩ := hy
  refine ⟨a, b, vs, ws, rfl, rfl, h1, h3, ?_, ?_, ?_, ?_⟩
  · rintro rfl
    cases h2
    cases ne
  · rw [← Paired.length h2, ← Paired.length h4, ← List.length_append]
    exact l
  · rintro rfl
    cases h4
    rw [List.append_nil] at q
    exact q _ _ (Gr.refl H) ⟨a, rfl, vs, h1, h2⟩
  · intro _ p n
    exact q _ _ (Gr.new n) ⟨p, rfl, _, SqT.of upd_same, Paired.app (Paired.imm (Gr.new (A := []) n) h2) (Paired.imm (Gr.new (A := []) n) h4)⟩

section
variable {σ : L2.St} {H : Hp} {E : Er → Prop}
theorem ev_and3 {t0 t1 t2 : TT} {m0 m1 m2 : R Bool} (h0 : EvT t0 σ H m0 E) (h1 : ∀ H', Gr [] H H' → EvT t1 σ H' m1 E) (h2 : ∀ H', Gr [] H H' → EvT t2 σ H' m2 E) : EvT (tAnd t0 (tAnd t1 t2)) σ H (andR m0 (andR m1 m2)) E := ev_and h0 (fun H1 g1 => ev_and (h1 H1 g1) (fun H2 k2 => (have g2 := g1.trans k2; h2 H2 g2)))
theorem ev_and4 {t0 t1 t2 t3 : TT} {m0 m1 m2 m3 : R Bool} (h0 : EvT t0 σ H m0 E) (h1 : ∀ H', Gr [] H H' → EvT t1 σ H' m1 E) (h2 : ∀ H', Gr [] H H' → EvT t2 σ H' m2 E) (h3 : ∀ H', Gr [] H H' → EvT t3 σ H' m3 E) : EvT (tAnd t0 (tAnd t1 (tAnd t2 t3))) σ H (andR m0 (andR m1 (andR m2 m3))) E := ev_and h0 (fun H1 g1 => ev_and (h1 H1 g1) (fun H2 k2 => (have g2 := g1.trans k2; ev_and (h2 H2 g2) (fun H3 k3 => (have g3 := g2.trans k3; h3 H3 g3)))))
theorem ev_and5 {t0 t1 t2 t3 t4 : TT} {m0 m1 m2 m3 m4 : R Bool} (h0 : EvT t0 σ H m0 E) (h1 : ∀ H', Gr [] H H' → EvT t1 σ H' m1 E) (h2 : ∀ H', Gr [] H H' → EvT t2 σ H' m2 E) (h3 : ∀ H', Gr [] H H' → EvT t3 σ H' m3 E) (h4 : ∀ H', Gr [] H H' → EvT t4 σ H' m4 E) : EvT (tAnd t0 (tAnd t1 (tAnd t2 (tAnd t3 t4)))) σ H (andR m0 (andR m1 (andR m2 (andR m3 m4)))) E := ev_and h0 (fun H1 g1 => ev_and (h1 H1 g1) (fun H2 k2 => (have g2 := g1.trans k2; ev_and (h2 H2 g2) (fun H3 k3 => (have g3 := g2.trans k3; ev_and (h3 H3 g3) (fun H4 k4 => (have g4 := g3.trans k4; h4 H4 g4)))))))
theorem ev_and6 {t0 t1 t2 t3 t4 t5 : TT} {m0 m1 m2 m3 m4 m5 : R Bool} (h0 : EvT t0 σ H m0 E) (h1 : ∀ H', Gr [] H H' → EvT t1 σ H' m1 E) (h2 : ∀ H', Gr [] H H' → EvT t2 σ H' m2 E) (h3 : ∀ H', Gr [] H H' → EvT t3 σ H' m3 E) (h4 : ∀ H', Gr [] H H' → EvT t4 σ H' m4 E) (h5 : ∀ H', Gr [] H H' → EvT t5 σ H' m5 E) : EvT (tAnd t0 (tAnd t1 (tAnd t2 (tAnd t3 (tAnd t4 t5))))) σ H (andR m0 (andR m1 (andR m2 (andR m3 (andR m4 m5))))) E := ev_and h0 (fun H1 g1 => ev_and (h1 H1 g1) (fun H2 k2 => (have g2 := g1.trans k2; ev_and (h2 H2 g2) (fun H3 k3 => (have g3 := g2.trans k3; ev_and (h3 H3 g3) (fun H4 k4 => (have g4 := g3.trans k4; ev_and (h4 H4 g4) (fun H5 k5 => (have g5 := g4.trans k5; h5 H5 g5)))))))))
theorem ev_and7 {t0 t1 t2 t3 t4 t5 t6 : TT} {m0 m1 m2 m3 m4 m5 m6 : R Bool} (h0 : EvT t0 σ H m0 E) (h1 : ∀ H', Gr [] H H' → EvT t1 σ H' m1 E) (h2 : ∀ H', Gr [] H H' → EvT t2 σ H' m2 E) (h3 : ∀ H', Gr [] H H' → EvT t3 σ H' m3 E) (h4 : ∀ H', Gr [] H H' → EvT t4 σ H' m4 E) (h5 : ∀ H', Gr [] H H' → EvT t5 σ H' m5 E) (h6 : ∀ H', Gr [] H H' → EvT t6 σ H' m6 E) : EvT (tAnd t0 (tAnd t1 (tAnd t2 (tAnd t3 (tAnd t4 (tAnd t5 t6)))))) σ H (andR m0 (andR m1 (andR m2 (andR m3 (andR m4 (andR m5 m6)))))) E := ev_and h0 (fun H1 g1 => ev_and (h1 H1 g1) (fun H2 k2 => (have g2 := g1.trans k2; ev_and (h2 H2 g2) (fun H3 k3 => (have g3 := g2.trans k3; ev_and (h3 H3 g3) (fun H4 k4 => (have g4 := g3.trans k4; ev_and (h4 H4 g4) (fun H5 k5 => (have g5 := g4.trans k5; ev_and (h5 H5 g5) (fun H6 k6 => (have g6 := g5.trans k6; h6 H6 g6)))))))))))
theorem ev_and8 {t0 t1 t2 t3 t4 t5 t6 t7 : TT} {m0 m1 m2 m3 m4 m5 m6 m7 : R Bool} (h0 : EvT t0 σ H m0 E) (h1 : ∀ H', Gr [] H H' → EvT t1 σ H' m1 E) (h2 : ∀ H', Gr [] H H' → EvT t2 σ H' m2 E) (h3 : ∀ H', Gr [] H H' → EvT t3 σ H' m3 E) (h4 : ∀ H', Gr [] H H' → EvT t4 σ H' m4 E) (h5 : ∀ H', Gr [] H H' → EvT t5 σ H' m5 E) (h6 : ∀ H', Gr [] H H' → EvT t6 σ H' m6 E) (h7 : ∀ H', Gr [] H H' → EvT t7 σ H' m7 E) : EvT (tAnd t0 (tAnd t1 (tAnd t2 (tAnd t3 (tAnd t4 (tAnd t5 (tAnd t6 t7))))))) σ H (andR m0 (andR m1 (andR m2 (andR m3 (andR m4 (andR m5 (andR m6 m7))))))) E := ev_and h0 (fun H1 g1 => ev_and (h1 H1 g1) (fun H2 k2 => (have g2 := g1.trans k2; ev_and (h2 H2 g2) (fun H3 k3 => (have g3 := g2.trans k3; ev_and (h3 H3 g3) (fun H4 k4 => (have g4 := g3.trans k4; ev_and (h4 H4 g4) (fun H5 k5 => (have g5 := g4.trans k5; ev_and (h5 H5 g5) (fun H6 k6 => (have g6 := g5.trans k6; ev_and (h6 H6 g6) (fun H7 k7 => (have g7 := g6.trans k7; h7 H7 g7)))))))))))))
theorem ev_and9 {t0 t1 t2 t3 t4 t5 t6 t7 t8 : TT} {m0 m1 m2 m3 m4 m5 m6 m7 m8 : R Bool} (h0 : EvT t0 σ H m0 E) (h1 : ∀ H', Gr [] H H' → EvT t1 σ H' m1 E) (h2 : ∀ H', Gr [] H H' → EvT t2 σ H' m2 E) (h3 : ∀ H', Gr [] H H' → EvT t3 σ H' m3 E) (h4 : ∀ H', Gr [] H H' → EvT t4 σ H' m4 E) (h5 : ∀ H', Gr [] H H' → EvT t5 σ H' m5 E) (h6 : ∀ H', Gr [] H H' → EvT t6 σ H' m6 E) (h7 : ∀ H', Gr [] H H' → EvT t7 σ H' m7 E) (h8 : ∀ H', Gr [] H H' → EvT t8 σ H' m8 E) : EvT (tAnd t0 (tAnd t1 (tAnd t2 (tAnd t3 (tAnd t4 (tAnd t5 (tAnd t6 (tAnd t7 t8)))))))) σ H (andR m0 (andR m1 (andR m2 (andR m3 (andR m4 (andR m5 (andR m6 (andR m7 m8)))))))) E := ev_and h0 (fun H1 g1 => ev_and (h1 H1 g1) (fun H2 k2 => (have g2 := g1.trans k2; ev_and (h2 H2 g2) (fun H3 k3 => (have g3 := g2.trans k3; ev_and (h3 H3 g3) (fun H4 k4 => (have g4 := g3.trans k4; ev_and (h4 H4 g4) (fun H5 k5 => (have g5 := g4.trans k5; ev_and (h5 H5 g5) (fun H6 k6 => (have g6 := g5.trans k6; ev_and (h6 H6 g6) (fun H7 k7 => (have g7 := g6.trans k7; ev_and (h7 H7 g7) (fun H8 k8 => (have g8 := g7.trans k8; h8 H8 g8)))))))))))))))
theorem ev_andV3 {t0 t1 t2 : TE} {m0 m1 m2 : R Bool} (h0 : EvV rB t0 σ H m0 E) (h1 : ∀ H', Gr [] H H' → EvV rB t1 σ H' m1 E) (h2 : ∀ H', Gr [] H H' → EvV rB t2 σ H' m2 E) : EvV rB (tAndV t0 (tAndV t1 t2)) σ H (andR m0 (andR m1 m2)) E := ev_andV h0 (fun H1 g1 => ev_andV (h1 H1 g1) (fun H2 k2 => (have g2 := g1.trans k2; h2 H2 g2)))
theorem ev_andV4 {t0 t1 t2 t3 : TE} {m0 m1 m2 m3 : R Bool} (h0 : EvV rB t0 σ H m0 E) (h1 : ∀ H', Gr [] H H' → EvV rB t1 σ H' m1 E) (h2 : ∀ H', Gr [] H H' → EvV rB t2 σ H' m2 E) (h3 : ∀ H', Gr [] H H' → EvV rB t3 σ H' m3 E) : EvV rB (tAndV t0 (tAndV t1 (tAndV t2 t3))) σ H (andR m0 (andR m1 (andR m2 m3))) E := ev_andV h0 (fun H1 g1 => ev_andV (h1 H1 g1) (fun H2 k2 => (have g2 := g1.trans k2; ev_andV (h2 H2 g2) (fun H3 k3 => (have g3 := g2.trans k3; h3 H3 g3)))))
theorem ev_andV5 {t0 t1 t2 t3 t4 : TE} {m0 m1 m2 m3 m4 : R Bool} (h0 : EvV rB t0 σ H m0 E) (h1 : ∀ H', Gr [] H H' → EvV rB t1 σ H' m1 E) (h2 : ∀ H', Gr [] H H' → EvV rB t2 σ H' m2 E) (h3 : ∀ H', Gr [] H H' → EvV rB t3 σ H' m3 E) (h4 : ∀ H', Gr [] H H' → EvV rB t4 σ H' m4 E) : EvV rB (tAndV t0 (tAndV t1 (tAndV t2 (tAndV t3 t4)))) σ H (andR m0 (andR m1 (andR m2 (andR m3 m4)))) E := ev_andV h0 (fun H1 g1 => ev_andV (h1 H1 g1) (fun H2 k2 => (have g2 := g1.trans k2; ev_andV (h2 H2 g2) (fun H3 k3 => (have g3 := g2.trans k3; ev_andV (h3 H3 g3) (fun H4 k4 => (have g4 := g3.trans k4; h4 H4 g4)))))))
theorem ev_andV6 {t0 t1 t2 t3 t4 t5 : TE} {m0 m1 m2 m3 m4 m5 : R Bool} (h0 : EvV rB t0 σ H m0 E) (h1 : ∀ H', Gr [] H H' → EvV rB t1 σ H' m1 E) (h2 : ∀ H', Gr [] H H' → EvV rB t2 σ H' m2 E) (h3 : ∀ H', Gr [] H H' → EvV rB t3 σ H' m3 E) (h4 : ∀ H', Gr [] H H' → EvV rB t4 σ H' m4 E) (h5 : ∀ H', Gr [] H H' → EvV rB t5 σ H' m5 E) : EvV rB (tAndV t0 (tAndV t1 (tAndV t2 (tAndV t3 (tAndV t4 t5))))) σ H (andR m0 (andR m1 (andR m2 (andR m3 (andR m4 m5))))) E := ev_andV h0 (fun H1 g1 => ev_andV (h1 H1 g1) (fun H2 k2 => (have g2 := g1.trans k2; ev_andV (h2 H2 g2) (fun H3 k3 => (have g3 := g2.trans k3; ev_andV (h3 H3 g3) (fun H4 k4 => (have g4 := g3.trans k4; ev_andV (h4 H4 g4) (fun H5 k5 => (have g5 := g4.trans k5; h5 H5 g5)))))))))
theorem ev_andV7 {t0 t1 t2 t3 t4 t5 t6 : TE} {m0 m1 m2 m3 m4 m5 m6 : R Bool} (h0 : EvV rB t0 σ H m0 E) (h1 : ∀ H', Gr [] H H' → EvV rB t1 σ H' m1 E) (h2 : ∀ H', Gr [] H H' → EvV rB t2 σ H' m2 E) (h3 : ∀ H', Gr [] H H' → EvV rB t3 σ H' m3 E) (h4 : ∀ H', Gr [] H H' → EvV rB t4 σ H' m4 E) (h5 : ∀ H', Gr [] H H' → EvV rB t5 σ H' m5 E) (h6 : ∀ H', Gr [] H H' → EvV rB t6 σ H' m6 E) : EvV rB (tAndV t0 (tAndV t1 (tAndV t2 (tAndV t3 (tAndV t4 (tAndV t5 t6)))))) σ H (andR m0 (andR m1 (andR m2 (andR m3 (andR m4 (andR m5 m6)))))) E := ev_andV h0 (fun H1 g1 => ev_andV (h1 H1 g1) (fun H2 k2 => (have g2 := g1.trans k2; ev_andV (h2 H2 g2) (fun H3 k3 => (have g3 := g2.trans k3; ev_andV (h3 H3 g3) (fun H4 k4 => (have g4 := g3.trans k4; ev_andV (h4 H4 g4) (fun H5 k5 => (have g5 := g4.trans k5; ev_andV (h5 H5 g5) (fun H6 k6 => (have g6 := g5.trans k6; h6 H6 g6)))))))))))
theorem ev_andV8 {t0 t1 t2 t3 t4 t5 t6 t7 : TE} {m0 m1 m2 m3 m4 m5 m6 m7 : R Bool} (h0 : EvV rB t0 σ H m0 E) (h1 : ∀ H', Gr [] H H' → EvV rB t1 σ H' m1 E) (h2 : ∀ H', Gr [] H H' → EvV rB t2 σ H' m2 E) (h3 : ∀ H', Gr [] H H' → EvV rB t3 σ H' m3 E) (h4 : ∀ H', Gr [] H H' → EvV rB t4 σ H' m4 E) (h5 : ∀ H', Gr [] H H' → EvV rB t5 σ H' m5 E) (h6 : ∀ H', Gr [] H H' → EvV rB t6 σ H' m6 E) (h7 : ∀ H', Gr [] H H' → EvV rB t7 σ H' m7 E) : EvV rB (tAndV t0 (tAndV t1 (tAndV t2 (tAndV t3 (tAndV t4 (tAndV t5 (tAndV t6 t7))))))) σ H (andR m0 (andR m1 (andR m2 (andR m3 (andR m4 (andR m5 (andR m6 m7))))))) E := ev_andV h0 (fun H1 g1 => ev_andV (h1 H1 g1) (fun H2 k2 => (have g2 := g1.trans k2; ev_andV (h2 H2 g2) (fun H3 k3 => (have g3 := g2.trans k3; ev_andV (h3 H3 g3) (fun H4 k4 => (have g4 := g3.trans k4; ev_andV (h4 H4 g4) (fun H5 k5 => (have g5 := g4.trans k5; ev_andV (h5 H5 g5) (fun H6 k6 => (have g6 := g5.trans k6; ev_andV (h6 H6 g6) (fun H7 k7 => (have g7 := g6.trans k7; h7 H7 g7)))))))))))))
theorem ev_andV9 {t0 t1 t2 t3 t4 t5 t6 t7 t8 : TE} {m0 m1 m2 m3 m4 m5 m6 m7 m8 : R Bool} (h0 : EvV rB t0 σ H m0 E) (h1 : ∀ H', Gr [] H H' → EvV rB t1 σ H' m1 E) (h2 : ∀ H', Gr [] H H' → EvV rB t2 σ H' m2 E) (h3 : ∀ H', Gr [] H H' → EvV rB t3 σ H' m3 E) (h4 : ∀ H', Gr [] H H' → EvV rB t4 σ H' m4 E) (h5 : ∀ H', Gr [] H H' → EvV rB t5 σ H' m5 E) (h6 : ∀ H', Gr [] H H' → EvV rB t6 σ H' m6 E) (h7 : ∀ H', Gr [] H H' → EvV rB t7 σ H' m7 E) (h8 : ∀ H', Gr [] H H' → EvV rB t8 σ H' m8 E) : EvV rB (tAndV t0 (tAndV t1 (tAndV t2 (tAndV t3 (tAndV t4 (tAndV t5 (tAndV t6 (tAndV t7 t8)))))))) σ H (andR m0 (andR m1 (andR m2 (andR m3 (andR m4 (andR m5 (andR m6 (andR m7 m8)))))))) E := ev_andV h0 (fun H1 g1 => ev_andV (h1 H1 g1) (fun H2 k2 => (have g2 := g1.trans k2; ev_andV (h2 H2 g2) (fun H3 k3 => (have g3 := g2.trans k3; ev_andV (h3 H3 g3) (fun H4 k4 => (have g4 := g3.trans k4; ev_andV (h4 H4 g4) (fun H5 k5 => (have g5 := g4.trans k5; ev_andV (h5 H5 g5) (fun H6 k6 => (have g6 := g5.trans k6; ev_andV (h6 H6 g6) (fun H7 k7 => (have g7 := g6.trans k7; ev_andV (h7 H7 g7) (fun H8 k8 => (have g8 := g7.trans k8; h8 H8 g8)))))))))))))))
theorem ev_or3 {t0 t1 t2 : TT} {m0 m1 m2 : R Bool} (h0 : EvT t0 σ H m0 E) (h1 : ∀ H', Gr [] H H' → EvT t1 σ H' m1 E) (h2 : ∀ H', Gr [] H H' → EvT t2 σ H' m2 E) : EvT (tOr t0 (tOr t1 t2)) σ H (orR m0 (orR m1 m2)) E := ev_or h0 (fun H1 g1 => ev_or (h1 H1 g1) (fun H2 k2 => (have g2 := g1.trans k2; h2 H2 g2)))
theorem ev_or4 {t0 t1 t2 t3 : TT} {m0 m1 m2 m3 : R Bool} (h0 : EvT t0 σ H m0 E) (h1 : ∀ H', Gr [] H H' → EvT t1 σ H' m1 E) (h2 : ∀ H', Gr [] H H' → EvT t2 σ H' m2 E) (h3 : ∀ H', Gr [] H H' → EvT t3 σ H' m3 E) : EvT (tOr t0 (tOr t1 (tOr t2 t3))) σ H (orR m0 (orR m1 (orR m2 m3))) E := ev_or h0 (fun H1 g1 => ev_or (h1 H1 g1) (fun H2 k2 => (have g2 := g1.trans k2; ev_or (h2 H2 g2) (fun H3 k3 => (have g3 := g2.trans k3; h3 H3 g3)))))
theorem ev_or5 {t0 t1 t2 t3 t4 : TT} {m0 m1 m2 m3 m4 : R Bool} (h0 : EvT t0 σ H m0 E) (h1 : ∀ H', Gr [] H H' → EvT t1 σ H' m1 E) (h2 : ∀ H', Gr [] H H' → EvT t2 σ H' m2 E) (h3 : ∀ H', Gr [] H H' → EvT t3 σ H' m3 E) (h4 : ∀ H', Gr [] H H' → EvT t4 σ H' m4 E) : EvT (tOr t0 (tOr t1 (tOr t2 (tOr t3 t4)))) σ H (orR m0 (orR m1 (orR m2 (orR m3 m4)))) E := ev_or h0 (fun H1 g1 => ev_or (h1 H1 g1) (fun H2 k2 => (have g2 := g1.trans k2; ev_or (h2 H2 g2) (fun H3 k3 => (have g3 := g2.trans k3; ev_or (h3 H3 g3) (fun H4 k4 => (have g4 := g3.trans k4; h4 H4 g4)))))))
theorem ev_or6 {t0 t1 t2 t3 t4 t5 : TT} {m0 m1 m2 m3 m4 m5 : R Bool} (h0 : EvT t0 σ H m0 E) (h1 : ∀ H', Gr [] H H' → EvT t1 σ H' m1 E) (h2 : ∀ H', Gr [] H H' → EvT t2 σ H' m2 E) (h3 : ∀ H', Gr [] H H' → EvT t3 σ H' m3 E) (h4 : ∀ H', Gr [] H H' → EvT t4 σ H' m4 E) (h5 : ∀ H', Gr [] H H' → EvT t5 σ H' m5 E) : EvT (tOr t0 (tOr t1 (tOr t2 (tOr t3 (tOr t4 t5))))) σ H (orR m0 (orR m1 (orR m2 (orR m3 (orR m4 m5))))) E := ev_or h0 (fun H1 g1 => ev_or (h1 H1 g1) (fun H2 k2 => (have g2 := g1.trans k2; ev_or (h2 H2 g2) (fun H3 k3 => (have g3 := g2.trans k3; ev_or (h3 H3 g3) (fun H4 k4 => (have g4 := g3.trans k4; ev_or (h4 H4 g4) (fun H5 k5 => (have g5 := g4.trans k5; h5 H5 g5)))))))))
theorem ev_or7 {t0 t1 t2 t3 t4 t5 t6 : TT} {m0 m1 m2 m3 m4 m5 m6 : R Bool} (h0 : EvT t0 σ H m0 E) (h1 : ∀ H', Gr [] H H' → EvT t1 σ H' m1 E) (h2 : ∀ H', Gr [] H H' → EvT t2 σ H' m2 E) (h3 : ∀ H', Gr [] H H' → EvT t3 σ H' m3 E) (h4 : ∀ H', Gr [] H H' → EvT t4 σ H' m4 E) (h5 : ∀ H', Gr [] H H' → EvT t5 σ H' m5 E) (h6 : ∀ H', Gr [] H H' → EvT t6 σ H' m6 E) : EvT (tOr t0 (tOr t1 (tOr t2 (tOr t3 (tOr t4 (tOr t5 t6)))))) σ H (orR m0 (orR m1 (orR m2 (orR m3 (orR m4 (orR m5 m6)))))) E := ev_or h0 (fun H1 g1 => ev_or (h1 H1 g1) (fun H2 k2 => (have g2 := g1.trans k2; ev_or (h2 H2 g2) (fun H3 k3 => (have g3 := g2.trans k3; ev_or (h3 H3 g3) (fun H4 k4 => (have g4 := g3.trans k4; ev_or (h4 H4 g4) (fun H5 k5 => (have g5 := g4.trans k5; ev_or (h5 H5 g5) (fun H6 k6 => (have g6 := g5.trans k6; h6 H6 g6)))))))))))
theorem ev_or8 {t0 t1 t2 t3 t4 t5 t6 t7 : TT} {m0 m1 m2 m3 m4 m5 m6 m7 : R Bool} (h0 : EvT t0 σ H m0 E) (h1 : ∀ H', Gr [] H H' → EvT t1 σ H' m1 E) (h2 : ∀ H', Gr [] H H' → EvT t2 σ H' m2 E) (h3 : ∀ H', Gr [] H H' → EvT t3 σ H' m3 E) (h4 : ∀ H', Gr [] H H' → EvT t4 σ H' m4 E) (h5 : ∀ H', Gr [] H H' → EvT t5 σ H' m5 E) (h6 : ∀ H', Gr [] H H' → EvT t6 σ H' m6 E) (h7 : ∀ H', Gr [] H H' → EvT t7 σ H' m7 E) : EvT (tOr t0 (tOr t1 (tOr t2 (tOr t3 (tOr t4 (tOr t5 (tOr t6 t7))))))) σ H (orR m0 (orR m1 (orR m2 (orR m3 (orR m4 (orR m5 (orR m6 m7))))))) E := ev_or h0 (fun H1 g1 => ev_or (h1 H1 g1) (fun H2 k2 => (have g2 := g1.trans k2; ev_or (h2 H2 g2) (fun H3 k3 => (have g3 := g2.trans k3; ev_or (h3 H3 g3) (fun H4 k4 => (have g4 := g3.trans k4; ev_or (h4 H4 g4) (fun H5 k5 => (have g5 := g4.trans k5; ev_or (h5 H5 g5) (fun H6 k6 => (have g6 := g5.trans k6; ev_or (h6 H6 g6) (fun H7 k7 => (have g7 := g6.trans k7; h7 H7 g7)))))))))))))
theorem ev_or9 {t0 t1 t2 t3 t4 t5 t6 t7 t8 : TT} {m0 m1 m2 m3 m4 m5 m6 m7 m8 : R Bool} (h0 : EvT t0 σ H m0 E) (h1 : ∀ H', Gr [] H H' → EvT t1 σ H' m1 E) (h2 : ∀ H', Gr [] H H' → EvT t2 σ H' m2 E) (h3 : ∀ H', Gr [] H H' → EvT t3 σ H' m3 E) (h4 : ∀ H', Gr [] H H' → EvT t4 σ H' m4 E) (h5 : ∀ H', Gr [] H H' → EvT t5 σ H' m5 E) (h6 : ∀ H', Gr [] H H' → EvT t6 σ H' m6 E) (h7 : ∀ H', Gr [] H H' → EvT t7 σ H' m7 E) (h8 : ∀ H', Gr [] H H' → EvT t8 σ H' m8 E) : EvT (tOr t0 (tOr t1 (tOr t2 (tOr t3 (tOr t4 (tOr t5 (tOr t6 (tOr t7 t8)))))))) σ H (orR m0 (orR m1 (orR m2 (orR m3 (orR m4 (orR m5 (orR m6 (orR m7 m8)))))))) E := ev_or h0 (fun H1 g1 => ev_or (h1 H1 g1) (fun H2 k2 => (have g2 := g1.trans k2; ev_or (h2 H2 g2) (fun H3 k3 => (have g3 := g2.trans k3; ev_or (h3 H3 g3) (fun H4 k4 => (have g4 := g3.trans k4; ev_or (h4 H4 g4) (fun H5 k5 => (have g5 := g4.trans k5; ev_or (h5 H5 g5) (fun H6 k6 => (have g6 := g5.trans k6; ev_or (h6 H6 g6) (fun H7 k7 => (have g7 := g6.trans k7; ev_or (h7 H7 g7) (fun H8 k8 => (have g8 := g7.trans k8; h8 H8 g8)))))))))))))))
theorem ev_orV3 {t0 t1 t2 : TE} {m0 m1 m2 : R Bool} (h0 : EvV rB t0 σ H m0 E) (h1 : ∀ H', Gr [] H H' → EvV rB t1 σ H' m1 E) (h2 : ∀ H', Gr [] H H' → EvV rB t2 σ H' m2 E) : EvV rB (tOrV t0 (tOrV t1 t2)) σ H (orR m0 (orR m1 m2)) E := ev_orV h0 (fun H1 g1 => ev_orV (h1 H1 g1) (fun H2 k2 => (have g2 := g1.trans k2; h2 H2 g2)))
theorem ev_orV4 {t0 t1 t2 t3 : TE} {m0 m1 m2 m3 : R Bool} (h0 : EvV rB t0 σ H m0 E) (h1 : ∀ H', Gr [] H H' → EvV rB t1 σ H' m1 E) (h2 : ∀ H', Gr [] H H' → EvV rB t2 σ H' m2 E) (h3 : ∀ H', Gr [] H H' → EvV rB t3 σ H' m3 E) : EvV rB (tOrV t0 (tOrV t1 (tOrV t2 t3))) σ H (orR m0 (orR m1 (orR m2 m3))) E := ev_orV h0 (fun H1 g1 => ev_orV (h1 H1 g1) (fun H2 k2 => (have g2 := g1.trans k2; ev_orV (h2 H2 g2) (fun H3 k3 => (have g3 := g2.trans k3; h3 H3 g3)))))
theorem ev_orV5 {t0 t1 t2 t3 t4 : TE} {m0 m1 m2 m3 m4 : R Bool} (h0 : EvV rB t0 σ H m0 E) (h1 : ∀ H', Gr [] H H' → EvV rB t1 σ H' m1 E) (h2 : ∀ H', Gr [] H H' → EvV rB t2 σ H' m2 E) (h3 : ∀ H', Gr [] H H' → EvV rB t3 σ H' m3 E) (h4 : ∀ H', Gr [] H H' → EvV rB t4 σ H' m4 E) : EvV rB (tOrV t0 (tOrV t1 (tOrV t2 (tOrV t3 t4)))) σ H (orR m0 (orR m1 (orR m2 (orR m3 m4)))) E := ev_orV h0 (fun H1 g1 => ev_orV (h1 H1 g1) (fun H2 k2 => (have g2 := g1.trans k2; ev_orV (h2 H2 g2) (fun H3 k3 => (have g3 := g2.trans k3; ev_orV (h3 H3 g3) (fun H4 k4 => (have g4 := g3.trans k4; h4 H4 g4)))))))
theorem ev_orV6 {t0 t1 t2 t3 t4 t5 : TE} {m0 m1 m2 m3 m4 m5 : R Bool} (h0 : EvV rB t0 σ H m0 E) (h1 : ∀ H', Gr [] H H' → EvV rB t1 σ H' m1 E) (h2 : ∀ H', Gr [] H H' → EvV rB t2 σ H' m2 E) (h3 : ∀ H', Gr [] H H' → EvV rB t3 σ H' m3 E) (h4 : ∀ H', Gr [] H H' → EvV rB t4 σ H' m4 E) (h5 : ∀ H', Gr [] H H' → EvV rB t5 σ H' m5 E) : EvV rB (tOrV t0 (tOrV t1 (tOrV t2 (tOrV t3 (tOrV t4 t5))))) σ H (orR m0 (orR m1 (orR m2 (orR m3 (orR m4 m5))))) E := ev_orV h0 (fun H1 g1 => ev_orV (h1 H1 g1) (fun H2 k2 => (have g2 := g1.trans k2; ev_orV (h2 H2 g2) (fun H3 k3 => (have g3 := g2.trans k3; ev_orV (h3 H3 g3) (fun H4 k4 => (have g4 := g3.trans k4; ev_orV (h4 H4 g4) (fun H5 k5 => (have g5 := g4.trans k5; h5 H5 g5)))))))))
theorem ev_orV7 {t0 t1 t2 t3 t4 t5 t6 : TE} {m0 m1 m2 m3 m4 m5 m6 : R Bool} (h0 : EvV rB t0 σ H m0 E) (h1 : ∀ H', Gr [] H H' → EvV rB t1 σ H' m1 E) (h2 : ∀ H', Gr [] H H' → EvV rB t2 σ H' m2 E) (h3 : ∀ H', Gr [] H H' → EvV rB t3 σ H' m3 E) (h4 : ∀ H', Gr [] H H' → EvV rB t4 σ H' m4 E) (h5 : ∀ H', Gr [] H H' → EvV rB t5 σ H' m5 E) (h6 : ∀ H', Gr [] H H' → EvV rB t6 σ H' m6 E) : EvV rB (tOrV t0 (tOrV t1 (tOrV t2 (tOrV t3 (tOrV t4 (tOrV t5 t6)))))) σ H (orR m0 (orR m1 (orR m2 (orR m3 (orR m4 (orR m5 m6)))))) E := ev_orV h0 (fun H1 g1 => ev_orV (h1 H1 g1) (fun H2 k2 => (have g2 := g1.trans k2; ev_orV (h2 H2 g2) (fun H3 k3 => (have g3 := g2.trans k3; ev_orV (h3 H3 g3) (fun H4 k4 => (have g4 := g3.trans k4; ev_orV (h4 H4 g4) (fun H5 k5 => (have g5 := g4.trans k5; ev_orV (h5 H5 g5) (fun H6 k6 => (have g6 := g5.trans k6; h6 H6 g6)))))))))))
theorem ev_orV8 {t0 t1 t2 t3 t4 t5 t6 t7 : TE} {m0 m1 m2 m3 m4 m5 m6 m7 : R Bool} (h0 : EvV rB t0 σ H m0 E) (h1 : ∀ H', Gr [] H H' → EvV rB t1 σ H' m1 E) (h2 : ∀ H', Gr [] H H' → EvV rB t2 σ H' m2 E) (h3 : ∀ H', Gr [] H H' → EvV rB t3 σ H' m3 E) (h4 : ∀ H', Gr [] H H' → EvV rB t4 σ H' m4 E) (h5 : ∀ H', Gr [] H H' → EvV rB t5 σ H' m5 E) (h6 : ∀ H', Gr [] H H' → EvV rB t6 σ H' m6 E) (h7 : ∀ H', Gr [] H H' → EvV rB t7 σ H' m7 E) : EvV rB (tOrV t0 (tOrV t1 (tOrV t2 (tOrV t3 (tOrV t4 (tOrV t5 (tOrV t6 t7))))))) σ H (orR m0 (orR m1 (orR m2 (orR m3 (orR m4 (orR m5 (orR m6 m7))))))) E := ev_orV h0 (fun H1 g1 => ev_orV (h1 H1 g1) (fun H2 k2 => (have g2 := g1.trans k2; ev_orV (h2 H2 g2) (fun H3 k3 => (have g3 := g2.trans k3; ev_orV (h3 H3 g3) (fun H4 k4 => (have g4 := g3.trans k4; ev_orV (h4 H4 g4) (fun H5 k5 => (have g5 := g4.trans k5; ev_orV (h5 H5 g5) (fun H6 k6 => (have g6 := g5.trans k6; ev_orV (h6 H6 g6) (fun H7 k7 => (have g7 := g6.trans k7; h7 H7 g7)))))))))))))
theorem ev_orV9 {t0 t1 t2 t3 t4 t5 t6 t7 t8 : TE} {m0 m1 m2 m3 m4 m5 m6 m7 m8 : R Bool} (h0 : EvV rB t0 σ H m0 E) (h1 : ∀ H', Gr [] H H' → EvV rB t1 σ H' m1 E) (h2 : ∀ H', Gr [] H H' → EvV rB t2 σ H' m2 E) (h3 : ∀ H', Gr [] H H' → EvV rB t3 σ H' m3 E) (h4 : ∀ H', Gr [] H H' → EvV rB t4 σ H' m4 E) (h5 : ∀ H', Gr [] H H' → EvV rB t5 σ H' m5 E) (h6 : ∀ H', Gr [] H H' → EvV rB t6 σ H' m6 E) (h7 : ∀ H', Gr [] H H' → EvV rB t7 σ H' m7 E) (h8 : ∀ H', Gr [] H H' → EvV rB t8 σ H' m8 E) : EvV rB (tOrV t0 (tOrV t1 (tOrV t2 (tOrV t3 (tOrV t4 (tOrV t5 (tOrV t6 (tOrV t7 t8)))))))) σ H (orR m0 (orR m1 (orR m2 (orR m3 (orR m4 (orR m5 (orR m6 (orR m7 m8)))))))) E := ev_orV h0 (fun H1 g1 => ev_orV (h1 H1 g1) (fun H2 k2 => (have g2 := g1.trans k2; ev_orV (h2 H2 g2) (fun H3 k3 => (have g3 := g2.trans k3; ev_orV (h3 H3 g3) (fun H4 k4 => (have g4 := g3.trans k4; ev_orV (h4 H4 g4) (fun H5 k5 => (have g5 := g4.trans k5; ev_orV (h5 H5 g5) (fun H6 k6 => (have g6 := g5.trans k6; ev_orV (h6 H6 g6) (fun H7 k7 => (have g7 := g6.trans k7; ev_orV (h7 H7 g7) (fun H8 k8 => (have g8 := g7.trans k8; h8 H8 g8)))))))))))))))
end
end Mir
set_option Elab.async false
set_option linter.all false
set_option maxRecDepth 100000
namespace Mir
open PySem PySem.Spec PyProof.Rows L2
variable [Nm]
/-! ### errors of the program: the classes that a law's text holds -/
structure Xc where
  fault : Option Addr
  zd : Option Addr
  mal : Option Addr
  refu : Option Addr
  nt : Option Addr
def xe0 (c : Option Addr) (A : List Addr) (H : Hp) (E : XK) : Prop := ∃ a, c = some a ∧ ∀ H', Gr A H H' → E (.ref a) none H'
def xe1 (c : Option Addr) (f : Str) (v : V) (A : List Addr) (H : Hp) (E : XK) : Prop := ∃ a, c = some a ∧ ∀ d H', Gr A H H' → H' d = some (.xd [(f, v)]) → E (.ref a) (some d) H'
def XEr (C : Xc) (A : List Addr) (H : Hp) (E : XK) : Er → Prop
  | .zd => xe0 C.zd A H E
  | .mal => xe0 C.mal A H E
  | .refu r => xe1 C.refu "reason" (.str r) A H E
  | .nt i => xe1 C.nt "at" (.int i) A H E
section
variable {C : Xc} {A : List Addr} {H H' : Hp} {E : XK} {e : Er}
theorem xe0_at {c : Option Addr} {a : Addr} (h : xe0 c A H E) (e : c = some a) (g : Gr A H H') : E (.ref a) none H' := by
  obtain ⟨b, e2, h⟩ := h
  rw [e] at e2
  cases e2
  exact h H' g
theorem xe1_at {c : Option Addr} {f : Str} {v : V} {a d : Addr} (h : xe1 c f v A H E) (e : c = some a) (g : Gr A H H') (hd : H' d = some (.xd [(f, v)])) : E (.ref a) (some d) H' := by
  obtain ⟨b, e2, h⟩ := h
  rw [e] at e2
  cases e2
  exact h d H' g hd
theorem XEr.sub (g : Gr A H H') (h : XEr C A H E e) : XEr C [] H' E e := by
  cases e with
  | zd => obtain ⟨a, e, h⟩ := h; exact ⟨a, e, fun H2 g2 => h H2 (g.of0' g2)⟩
  | mal => obtain ⟨a, e, h⟩ := h; exact ⟨a, e, fun H2 g2 => h H2 (g.of0' g2)⟩
  | refu r => obtain ⟨a, e, h⟩ := h; exact ⟨a, e, fun d H2 g2 hd => h d H2 (g.of0' g2) hd⟩
  | nt i => obtain ⟨a, e, h⟩ := h; exact ⟨a, e, fun d H2 g2 hd => h d H2 (g.of0' g2) hd⟩
/-- .. at an error class that the text does not hold, nothing is promised -/
theorem xe0_no {c : Option Addr} (h : xe0 c A H E) (e : c = none) : False := by
  obtain ⟨a, e2, _⟩ := h
  rw [e] at e2
  cases e2
theorem xe1_no {c : Option Addr} {f : Str} {v : V} (h : xe1 c f v A H E) (e : c = none) : False := by
  obtain ⟨a, e2, _⟩ := h
  rw [e] at e2
  cases e2
end
/-- an answer that is no error -/
def noEr {α : Type} (m : R α) : R α := match m with
  | .ok a => .ok a
  | .er _ => .out
  | .out => .out
def tryR {α : Type} (m : R α) (h : Er → R α) : R α := match m with
  | .ok a => .ok a
  | .er e => h e
  | .out => .out
@[reducible] def Er.on {ρ : Type} (e : Er) (z m : ρ) (r : Str → ρ) (n : Int → ρ) : ρ := match e with
  | .zd => z
  | .mal => m
  | .refu x => r x
  | .nt i => n i
theorem wp_noEr {α : Type} {m : R α} {P : α → Prop} {E : Er → Prop} (h : wp (noEr m) P E) : wp m P fun _ => False := by
  cases m with
  | ok a => exact h
  | er x => exact h.elim
  | out => exact h
theorem wp_bindN {α β : Type} {Q : β → Prop} {E : Er → Prop} {m : R α} {f : α → R β} (h : wp ((noEr m).bind f) Q E) : wp m (fun a => wp (f a) Q E) fun _ => False := wp_noEr (wp_bind h)
theorem wp_tryR {α : Type} {m : R α} {k : Er → R α} {P : α → Prop} {E : Er → Prop} (h : wp (tryR m k) P E) : wp m P fun e => wp (k e) P E := by
  cases m <;> exact h
theorem rd_callS {sp : Sp} {E : L2.St → XK} {l : TA} {σ : L2.St} {H : Hp} {Q : VK} (h : l σ H fun vs H1 => sp vs H1 Q (E σ)) : tCallS sp E l σ H Q := h
/-! ### try -/
def tTryAs (K : PySem.W.Frag) (c : Value) (i : Nat) (ts : Addr → Value → Option Addr → TS) (Wout : WX) (tb : WX → TS) : TS := fun D σ H => tb (wAs K c i ts Wout D) D σ H
def tTryOnly (K : PySem.W.Frag) (c : Value) (ts : Addr → Value → Option Addr → TS) (Wout : WX) (tb : WX → TS) : TS := fun D σ H => tb (wOnly K c ts Wout D) D σ H
theorem ps_tryAs {X : Cx} {x n : Str} {c : Value} {i : Nat} {body suite : List Stmt} {b₀ : Stmt} {np pos pos' : Pos} {tb : WX → TS} {ts : Addr → Value → Option Addr → TS} {Wout : WX}
    (hs : X.stack = X.env :: X.outer) (hf : X.env.frame = some X.env.locals) (hN : X.N.Nodup) (hi : X.N[i]? = some n) (hln : X.env.kindOf n = some .local) (hc : Names X x c) (tk : Takes X Wout)
    (hb : ∀ (W : WX) (pn : List (Addr × Obj)) (xe : Value → Shared → Prop), Takes (X.tr pn xe) W → PassesOwn (model X.prog X.w) X.A X.env xe → PSs (X.tr pn xe) body (tb W))
    (hh : ∀ (a : Addr) (oe : Obj) (cls : Value) (d : Option Addr) (pn : List (Addr × Obj)), Zc cls d oe → (∃ vs, oe.data = .fields vs) → PSs (X.suite a ((a, oe) :: pn)) (b₀ :: suite) (ts a cls d)) :
    PS X (.Try body [.ExceptHandler (some (.Name x np)) (some n) (b₀ :: suite) pos'] [] [] pos) (tTryAs X.K c i ts Wout tb) := ps_try_as hs hf hN hi hln hc tk hb hh
theorem ps_tryOnly {X : Cx} {x : Str} {c : Value} {body suite : List Stmt} {b₀ : Stmt} {np pos pos' : Pos} {tb : WX → TS} {ts : Addr → Value → Option Addr → TS} {Wout : WX}
    (hs : X.stack = X.env :: X.outer) (hf : X.env.frame = some X.env.locals) (hc : Names X x c) (tk : Takes X Wout)
    (hb : ∀ (W : WX) (pn : List (Addr × Obj)) (xe : Value → Shared → Prop), Takes (X.tr pn xe) W → PassesOwn (model X.prog X.w) X.A X.env xe → PSs (X.tr pn xe) body (tb W))
    (hh : ∀ (a : Addr) (oe : Obj) (cls : Value) (d : Option Addr) (pn : List (Addr × Obj)), Zc cls d oe → (∃ vs, oe.data = .fields vs) → PSs (X.suite a ((a, oe) :: pn)) (b₀ :: suite) (ts a cls d)) :
    PS X (.Try body [.ExceptHandler (some (.Name x np)) none (b₀ :: suite) pos'] [] [] pos) (tTryOnly X.K c ts Wout tb) := ps_try_only hs hf hc tk hb hh
section
variable {K : PySem.W.Frag} {c : Value} {i : Nat} {ts : Addr → Value → Option Addr → TS} {Wout : WX} {tb : WX → TS} {D : Ends} {σ : L2.St} {H : Hp} {α : Type} {m : R α} {k : Er → R α} {P : α → Prop} {E : Er → Prop}
/-- what the handlers do is shown once, for every state that the body may leave -/
theorem rd_tryAs (C : Xc) (rel : L2.St → Hp → Prop) (hm : wp (tryR m k) P E)
    (hs : ∀ (e : Er) σ H, rel σ H → wp (k e) P E → XEr C [] H (WE (wAs K c i ts Wout D) σ) e)
    (hb : ∀ (W : WX), (∀ (e : Er) σ H, rel σ H → wp (k e) P E → XEr C [] H (WE W σ) e) → wp m P (fun e => wp (k e) P E) → tb W D σ H) : tTryAs K c i ts Wout tb D σ H :=
  hb _ hs (wp_tryR hm)
theorem rd_tryOnly (C : Xc) (rel : L2.St → Hp → Prop) (hm : wp (tryR m k) P E)
    (hs : ∀ (e : Er) σ H, rel σ H → wp (k e) P E → XEr C [] H (WE (wOnly K c ts Wout D) σ) e)
    (hb : ∀ (W : WX), (∀ (e : Er) σ H, rel σ H → wp (k e) P E → XEr C [] H (WE W σ) e) → wp m P (fun e => wp (k e) P E) → tb W D σ H) : tTryOnly K c ts Wout tb D σ H :=
  hb _ hs (wp_tryR hm)
end
/-! ### what is known of an error class without __init__ -/
structure Xk (K : PySem.W.Frag) (mg : Str → Option Value) (x : Str) (c : Addr) : Prop where
  g : mg x = some (.ref c)
  x : PySem.W.excIn K c [.type "ValueError", .type "Exception", .type "BaseException", .type "object"] "ValueError.__new__" = true
  k : PySem.W.keepIn K (.ref c) = true
  b : PySem.W.subIn K (.ref c) (.type "BaseException") = some true
  t : PySem.W.typeIn K (.ref c) = some (.type "type")
/-! ### isinstance of a caught error -/
def rIsX (K : PySem.W.Frag) (a : Addr) (cls : Value) (d : Option Addr) (xs : List V) (H : Hp) (Q : VK) : Prop := ∃ (D : Addr) (c : V) (b : Bool), cls = .ref D ∧ d = none ∧ ExcC K D ∧ xs = [.ref a, c] ∧
  ((∃ cv, (∀ u, RelV c u → u = cv) ∧ PySem.W.kitOne K (.ref D) cv = some b) ∨ (∃ p vs its, c = .ref p ∧ H p = some (.tup vs) ∧ (∀ us, Vals vs us → us = its) ∧ PySem.W.kitAny K (.ref D) its = some b)) ∧ Q (.bl b) H
theorem call_isX {X : Cx} {a : Addr} {cls : Value} {d : Option Addr} {oe : Obj} {pn : List (Addr × Obj)} (hz : Zc cls d oe) (hf : ∃ vs, oe.data = .fields vs) :
    CallR (X.suite a ((a, oe) :: pn)) (.builtin "isinstance") (rIsX X.K a cls d) := by
  intro pins s σ H xs us Q I r h
  obtain ⟨D, c, b, rfl, rfl, C, rfl, h, q⟩ := h
  rcases h with ⟨cv, hcv, e⟩ | ⟨p, vs, its, rfl, hp, hi, e⟩
  · exact call_isE C hz hf pins s σ H _ us Q I r ⟨c, cv, b, rfl, hcv, e, q⟩
  · cases r with
    | cons rx rr =>
      cases rr with
      | cons rt rn =>
        cases rn
        obtain rfl := rx
        obtain rfl := rt
        obtain ⟨hget, _⟩ := I.pin (a, oe) (List.mem_append_left _ List.mem_cons_self)
        obtain ⟨vs', hv⟩ := hf
        have J : PySem.W.InstAt s.heap a oe D none := ⟨hget, hz.1, by unfold PySem.W.notCls; rw [hv] <;> rfl, by rw [hz.2]; trivial⟩
        have ht : ObjOk X.prog X.w H s.heap p (.tup vs) := I.hok p _ hp
        obtain ⟨hl, its', hv', it⟩ := ht
        obtain rfl := hi _ hv'
        obtain ⟨dd, n, sl, hg⟩ : ∃ dd n sl, s.heap.get? p = some ⟨.type "tuple", dd, .seq (List.toArray its') n, sl⟩ := by
          obtain ⟨o, h1, h2, n, h3⟩ := it
          obtain ⟨cl, dc, dt, sl⟩ := o
          cases h2
          cases h3
          exact ⟨_, _, _, h1⟩
        exact PySem.W.kia_tup (PySem.W.handS_kitx_exc C.hg C.hk C.hs C.hd C.ha C.hn C.ht C.hm) I.kIn J hg e (by simp) fun tk => ⟨.bl b, H, I.tok _, rfl, q⟩
theorem isX_one {K : PySem.W.Frag} {D a : Addr} {c : V} {cv : Value} {b : Bool} {H : Hp} {Q : VK} (C : ExcC K D) (e : PySem.W.kitOne K (.ref D) cv = some b) (hc : ∀ u, RelV c u → u = cv) (q : Q (.bl b) H) : ap3 (rIsX K a (.ref D) none) [.ref a, c] H Q :=
  ⟨D, c, b, rfl, rfl, C, rfl, .inl ⟨cv, hc, e⟩, q⟩
theorem isX_tup {K : PySem.W.Frag} {D a p : Addr} {vs : List V} {its : List Value} {b : Bool} {H : Hp} {Q : VK} (C : ExcC K D) (hp : H p = some (.tup vs)) (hi : ∀ us, Vals vs us → us = its) (e : PySem.W.kitAny K (.ref D) its = some b) (q : Q (.bl b) H) : ap3 (rIsX K a (.ref D) none) [.ref a, .ref p] H Q :=
  ⟨D, .ref p, b, rfl, rfl, C, rfl, .inr ⟨p, vs, its, rfl, hp, hi, e⟩, q⟩
theorem vals_refs : ∀ {cs : List Addr} {us : List Value}, Vals (cs.map V.ref) us → us = cs.map Value.ref
  | [], _, h => by cases h; rfl
  | c :: cs, _, h => by
    cases h with
    | cons r t =>
      obtain rfl := r
      rw [vals_refs t]
      rfl
theorem mk_X {vs : List V} {H : Hp} {Q : VK} (l : vs.length ≤ sizeLine) (q : ∀ p H', Gr [] H H' → H' p = some (.tup vs) → Q (.ref p) H') : aTup vs H Q := ⟨l, fun p n => q p _ (Gr.new n) upd_same⟩
theorem kc_of {K : PySem.W.Frag} {C : Addr} {cls : Value} {b : Bool} (h1 : PySem.W.subIn K (.ref C) (.type "BaseException") = some true) (h2 : PySem.W.hasDictIn K C = true) (h3 : PySem.W.typeIn K (.ref C) = some (.type "type")) (h4 : PySem.W.subIn K cls (.ref C) = some b) : PySem.W.kitCls K cls (.ref C) = some b := by
  have := PySem.W.exm_ref h1 h2 h3 h4
  unfold PySem.W.exmOne at this
  rw [h1] at this
  simpa using this
theorem ko_true {K : PySem.W.Frag} {t c : Value} (h : PySem.W.kitCls K t c = some true) : PySem.W.kitOne K t c = some true := by
  unfold PySem.W.kitOne
  split
  · rfl
  · exact h
theorem ko_false {K : PySem.W.Frag} {t C : Addr} (h : PySem.W.kitCls K (.ref t) (.ref C) = some false) (s : PySem.W.subIn K (.ref t) (.ref C) = some false) (s2 : PySem.W.subIn K (.ref t) (.ref t) = some true) : PySem.W.kitOne K (.ref t) (.ref C) = some false := by
  unfold PySem.W.kitOne
  split
  · rename_i e
    have e2 : (Value.ref t) = .ref C := by simpa using e
    rw [← e2, s2] at s
    cases s
  · exact h
theorem ka_nil {K : PySem.W.Frag} {t : Value} : PySem.W.kitAny K t [] = some false := rfl
theorem ka_cons {K : PySem.W.Frag} {t c : Value} {cs : List Value} {b : Bool} (h : PySem.W.kitOne K t c = some false) (h2 : PySem.W.kitAny K t cs = some b) : PySem.W.kitAny K t (c :: cs) = some b := by
  unfold PySem.W.kitAny
  rw [h]
  exact h2
theorem ka_hit {K : PySem.W.Frag} {t c : Value} {cs : List Value} (h : PySem.W.kitOne K t c = some true) : PySem.W.kitAny K t (c :: cs) = some true := by
  unfold PySem.W.kitAny
  rw [h]
theorem kt_of {K : PySem.W.Frag} {T : String} {t : Value} {b : Bool} (m : PySem.W.kitMeta T = true) (h : PySem.W.subIn K t (.type T) = some b) : PySem.W.kitCls K t (.type T) = some b := by
  unfold PySem.W.kitCls
  simp [m, h]
section
variable {ρ : Type} {z m : R ρ} {r : Str → R ρ} {n : Int → R ρ} {P : ρ → Prop} {E : Er → Prop} {x : Str} {i : Int}
theorem wp_on_zd (h : wp (Er.on .zd z m r n) P E) : wp z P E := h
theorem wp_on_mal (h : wp (Er.on .mal z m r n) P E) : wp m P E := h
theorem wp_on_refu (h : wp (Er.on (.refu x) z m r n) P E) : wp (r x) P E := h
theorem wp_on_nt (h : wp (Er.on (.nt i) z m r n) P E) : wp (n i) P E := h
end
end Mir
set_option Elab.async false
set_option linter.all false
set_option maxRecDepth 100000
namespace Mir
open PySem PySem.Spec PyProof.Rows L2
variable [Nm]
/-! ### any, all of a list or tuple of numbers, flags -/
def truF : V → Bool
  | .int i => i != 0
  | .bl b => b
  | _ => false
def isF : V → Bool
  | .int _ => true
  | .bl _ => true
  | .non => true
  | _ => false
def rAnyF (K : PySem.W.Frag) (vs : List V) (H : Hp) (Q : VK) : Prop := ∃ a xs, vs = [.ref a] ∧ (SqL K H a xs ∨ SqT K H a xs) ∧ (∀ x ∈ xs, isF x = true) ∧ Q (.bl (xs.any truF)) H
theorem any_rangeF : ∀ (xs : List V), ((List.range xs.length).any fun i => truF (xs.getD i .non)) = xs.any truF := by
  intro xs
  rw [Bool.eq_iff_iff, List.any_eq_true, List.any_eq_true]
  constructor
  · rintro ⟨i, hi, ht⟩
    have hi := List.mem_range.mp hi
    exact ⟨xs[i], List.getElem_mem hi, by rw [List.getD_eq_getElem?_getD, List.getElem?_eq_getElem hi] at ht; exact ht⟩
  · rintro ⟨x, hx, ht⟩
    obtain ⟨i, hi, e⟩ := List.getElem_of_mem hx
    exact ⟨i, List.mem_range.mpr hi, by rw [List.getD_eq_getElem?_getD, List.getElem?_eq_getElem hi]; exact e ▸ ht⟩
theorem truth_flat {prog : Program} {w : World} {A : Around} {xs : List V} {its : List Value} (r : Vals xs its) (hf : ∀ x ∈ xs, isF x = true) :
    TruthOf prog w A (fun i v => (List.toArray its)[i]? = some v) fun i => truF (xs.getD i .non) := by
  intro i v s Q E hv hq
  have hv' : its[i]? = some v := by simpa using hv
  obtain ⟨x, hx, rx⟩ : ∃ x, xs[i]? = some x ∧ RelV x v := by
    clear hq hf
    induction r generalizing i with
    | nil => simp at hv'
    | cons h t ih =>
      cases i with
      | zero =>
        simp at hv'
        subst hv'
        exact ⟨_, rfl, h⟩
      | succ i => simpa using ih i (by simpa using hv') (by simpa using hv')
  have e : xs.getD i .non = x := by rw [List.getD_eq_getElem?_getD, hx]; rfl
  have hq : Q (truF x) s := by
    have h2 : Q (truF (xs.getD i .non)) s := hq
    rw [e] at h2
    exact h2
  have hm := hf x (List.mem_of_getElem? hx)
  cases x with
  | int n => obtain ⟨t, rfl⟩ := rx; exact P.truthy_int hq
  | bl b => obtain rfl := rx; exact wpAny_truthy_bool hq
  | non => obtain rfl := rx; exact PyProof.Rows.truthy_none hq
  | _ => cases hm
theorem cr_anyF {X : Cx} (hc : X.calm = true) : CallR X (.builtin "any") (rAnyF X.K) := by
  intro pins s σ H vs us Q I r h
  obtain ⟨a, xs, rfl, hs, hf, q⟩ := h
  rw [Vals.ref1 r]
  rcases hs with hs | hs
  · obtain ⟨its, rv, hl, _⟩ := I.list hs
    refine call_any_walk (iter_any hl.isList fun s₂ e2 st hne => ?_)
    subst e2
    refine ⟨s.heap.objs.size, [s.heap.objs.size, a], [s.heap.objs.size], its.toArray.size, (fun i v => its.toArray[i]? = some v), (fun i h => Heap.IsListIter h s.heap.objs.size a i ∧ Heap.IsList h a its.toArray), _, rfl, Walks.list (A := X.A.in1) (I.ok.hd hc) _ a hne its.toArray, st, truth_flat rv hf, fun h' tk hk => ?_⟩
    refine ⟨.bl (xs.any truF), H, I.kept fun b o eo => hk b o (fun hmem => ?_) (Heap.get?_push_of_some _ eo), ?_, q⟩
    · rcases List.mem_cons.mp hmem with e1 | hmem
      · exact absurd (e1 ▸ Heap.lt_size eo) (Nat.lt_irrefl _)
      · cases hmem
    · show Value.bool _ = Value.bool _
      rw [← any_rangeF xs, List.size_toArray, ← Paired.length rv]
  · obtain ⟨its, rv, hl, _⟩ := I.tuple hs
    have hne : a ≠ s.heap.objs.size := by
      obtain ⟨o, h1, _⟩ := hl
      exact Nat.ne_of_lt (Heap.lt_size h1)
    refine call_any_walk (iter_tuple hl ?_)
    refine ⟨s.heap.objs.size, [s.heap.objs.size, a], [s.heap.objs.size], its.toArray.size, (fun i v => its.toArray[i]? = some v), (fun i h => Heap.IsTupleIter h s.heap.objs.size a i ∧ Heap.IsTuple h a its.toArray), _, rfl, Walks.tuple (A := X.A.in1) (I.ok.hd hc) _ a hne its.toArray, ⟨⟨_, Heap.get?_push_size _ rfl, rfl, rfl⟩, ?_⟩, truth_flat rv hf, fun h' tk hk => ?_⟩
    · obtain ⟨o, h1, h2⟩ := hl
      exact ⟨o, Heap.get?_push_of_some _ h1, h2⟩
    refine ⟨.bl (xs.any truF), H, I.kept fun b o eo => hk b o (fun hmem => ?_) (Heap.get?_push_of_some _ eo), ?_, q⟩
    · rcases List.mem_cons.mp hmem with e1 | hmem
      · exact absurd (e1 ▸ Heap.lt_size eo) (Nat.lt_irrefl _)
      · cases hmem
    · show Value.bool _ = Value.bool _
      rw [← any_rangeF xs, List.size_toArray, ← Paired.length rv]
end Mir
set_option Elab.async false
set_option linter.all false
set_option maxRecDepth 100000
namespace Mir
open PySem PySem.Spec PyProof.Rows L2
variable [Nm]
/-! ### what is walked, with its data -/
structure Wk {α : Type} (J : It) (xs : List α) (G : Hp → Prop) (r : Rp α) (H0 : Hp) : Prop where
  w : ∃ Y, Walk J xs.length G Y ∧ ∀ (A : List Addr) i H v H', Gr A H0 H → i < xs.length → Y i H v H' → ∃ x, xs[i]? = some x ∧ Gr [] H H' ∧ r H' x v
section
variable {α β : Type} {K : PySem.W.Frag} {r : Rp α} {s : Rp β} {H0 : Hp} {a b : Addr} {xs : List α} {ys : List β} {vs ws : List V}
theorem Paired.get1 {q : α → V → Prop} (hp : Paired q xs vs) {i : Nat} {v : V} (e : vs[i]? = some v) : ∃ x, xs[i]? = some x ∧ q x v := by
  have hi := (List.getElem?_eq_some_iff.mp e).1
  have hi' : i < xs.length := by rw [Paired.length hp]; exact hi
  exact ⟨xs[i], List.getElem?_eq_getElem hi', Paired.get2 hp e hi'⟩
theorem wk_lst [Imm r] (hp : Paired (r H0) xs vs) : Wk (Itl K a) xs (fun H => SqL K H a vs) r H0 := ⟨YAt vs, by rw [Paired.length hp]; exact walk_list, fun A i H v H' g hi ⟨e, ev⟩ => by
  obtain ⟨x, hx, hr⟩ := Paired.get1 hp ev
  exact ⟨x, hx, by rw [e]; exact Gr.refl _, by rw [e]; exact Imm.mono g hr⟩⟩
theorem wk_tup [Imm r] (hp : Paired (r H0) xs vs) : Wk (Itt K a) xs (fun H => SqT K H a vs) r H0 := ⟨YAt vs, by rw [Paired.length hp]; exact walk_tup, fun A i H v H' g hi ⟨e, ev⟩ => by
  obtain ⟨x, hx, hr⟩ := Paired.get1 hp ev
  exact ⟨x, hx, by rw [e]; exact Gr.refl _, by rw [e]; exact Imm.mono g hr⟩⟩
theorem wk_rng {lo : Int} {n : Nat} : Wk (Itr lo n) (rng lo n) (fun _ => True) rI H0 := ⟨YFn fun i => V.int (lo + (i : Nat)), by rw [rng_length]; exact walk_range, fun A i H v H' g hi ⟨e, ev⟩ =>
  ⟨lo + i, by rw [List.getElem?_eq_getElem hi, rng_get], by rw [e]; exact Gr.refl _, ev⟩⟩
def rngC (lo c : Int) : Nat → List Int
  | 0 => []
  | n + 1 => lo :: rngC (lo + c) c n
theorem rngC_length (lo c : Int) (n : Nat) : (rngC lo c n).length = n := by
  induction n generalizing lo with
  | zero => rfl
  | succ n ih => exact congrArg Nat.succ (ih (lo + c))
theorem rngC_get (lo c : Int) (n i : Nat) (h : i < n) : (rngC lo c n)[i]? = some (lo + (i : Nat) * c) := by
  induction n generalizing lo i with
  | zero => omega
  | succ n ih =>
    cases i with
    | zero => show some lo = _; simp
    | succ i =>
      show (rngC (lo + c) c n)[i]? = _
      rw [ih (lo + c) i (by omega)]
      congr 1
      have : ((i + 1 : Nat) : Int) * c = (i : Int) * c + c := by rw [Int.natCast_add, Int.add_mul]; simp
      omega
theorem wk_rngC {lo c : Int} {n : Nat} : Wk (Itc lo c n) (rngC lo c n) (fun _ => True) rI H0 := ⟨YFn fun i => V.int (lo + (i : Nat) * c), by rw [rngC_length]; exact walk_rangeC, fun A i H v H' g hi ⟨e, ev⟩ =>
  ⟨lo + (i : Nat) * c, rngC_get lo c n i (by rwa [rngC_length] at hi), by rw [e]; exact Gr.refl _, ev⟩⟩
def enumF (xs : List α) : List (Int × α) := (rng 0 xs.length).zip xs
theorem zip_get {i : Nat} {x : α} {y : β} (h1 : xs[i]? = some x) (h2 : ys[i]? = some y) : (xs.zip ys)[i]? = some (x, y) := by
  rw [List.getElem?_zip_eq_some]
  exact ⟨h1, h2⟩
theorem wk_enum [Imm r] (hp : Paired (r H0) xs vs) : Wk (Ite K a) (enumF xs) (fun H => SqL K H a vs) (rP K rI r) H0 := ⟨_, by rw [enumF, List.length_zip, rng_length, Nat.min_self, Paired.length hp]; exact walk_enum, fun A i H v H' g hi h => by
  obtain ⟨T, x, y, rfl, hn, rfl, ex, ey⟩ := h
  cases ex
  obtain ⟨z, hz, hr⟩ := Paired.get1 hp ey
  have hi' : i < (rng 0 xs.length).length := by
    rw [enumF, List.length_zip] at hi
    exact Nat.lt_of_lt_of_le hi (Nat.min_le_left _ _)
  refine ⟨((i : Nat), z), zip_get (by rw [List.getElem?_eq_getElem hi', rng_get]; congr 1; omega) hz, Gr.new hn, T, .int (i : Nat), y, rfl, SqT.of upd_same, rfl, Imm.mono (g.of0' (Gr.new hn)) hr⟩⟩
theorem wk_zip [Imm r] [Imm s] (hp : Paired (r H0) xs vs) (hq : Paired (s H0) ys ws) : Wk (Itz K a b) (xs.zip ys) (fun H => SqL K H a vs ∧ SqL K H b ws) (rP K r s) H0 := ⟨_, by rw [List.length_zip]; exact walk_zip (by rw [Paired.length hp, Paired.length hq]), fun A i H v H' g hi h => by
  obtain ⟨T, x, y, rfl, hn, rfl, ex, ey⟩ := h
  obtain ⟨z, hz, hr⟩ := Paired.get1 hp ex
  obtain ⟨u, hu, hs⟩ := Paired.get1 hq ey
  exact ⟨(z, u), zip_get hz hu, Gr.new hn, T, x, y, rfl, SqT.of upd_same, Imm.mono (g.of0' (Gr.new hn)) hr, Imm.mono (g.of0' (Gr.new hn)) hs⟩⟩
theorem walk_zipT : Walk (RZ.ItzT K a b) (min vs.length ws.length) (fun H => SqT K H a vs ∧ SqT K H b ws) (YPair (fun i => vs[i]?) fun i => ws[i]?) := by
  refine ⟨fun i H hi ⟨h1, h2⟩ => ?_, fun H ⟨h1, h2⟩ => ?_, fun i H x H' hi ⟨h1, h2⟩ h => ?_⟩
  · exact ⟨vs, ws, vs[i]'(by omega), ws[i]'(by omega), h1, h2, by simp [List.getElem?_eq_getElem (show i < vs.length by omega)], by simp [List.getElem?_eq_getElem (show i < ws.length by omega)]⟩
  · exact ⟨vs, ws, h1, h2, by omega⟩
  · obtain ⟨T, x, y, rfl, hn, rfl, ex, ey⟩ := h
    exact ⟨T, x, y, rfl, hn, rfl, ex vs h1, ey ws h2⟩
theorem wk_zipT [Imm r] [Imm s] (hp : Paired (r H0) xs vs) (hq : Paired (s H0) ys ws) : Wk (RZ.ItzT K a b) (xs.zip ys) (fun H => SqT K H a vs ∧ SqT K H b ws) (rP K r s) H0 := ⟨_, by rw [List.length_zip, Paired.length hp, Paired.length hq]; exact walk_zipT, fun A i H v H' g hi h => by
  obtain ⟨T, x, y, rfl, hn, rfl, ex, ey⟩ := h
  obtain ⟨z, hz, hr⟩ := Paired.get1 hp ex
  obtain ⟨u, hu, hs⟩ := Paired.get1 hq ey
  exact ⟨(z, u), zip_get hz hu, Gr.new hn, T, x, y, rfl, SqT.of upd_same, Imm.mono (g.of0' (Gr.new hn)) hr, Imm.mono (g.of0' (Gr.new hn)) hs⟩⟩
end
section
variable {α σt ρ : Type} {r : Rp α} {J : It} {G : Hp → Prop} {xs : List α} {H0 H : Hp} {g : TG} {tb : TS} {D : Ends} {σ : L2.St} {s0 : σt} {E : Er → Prop}
theorem for_R (w : Wk J xs G r H0) {f : σt → α → R σt} (rel : σt → L2.St → Hp → Prop)
    (hm : wp (foldR f s0 xs) (fun s => ∀ σ H, rel s σ H → D.nx σ H) E) (h0 : rel s0 σ H) (hG : ∀ s σ H, rel s σ H → G H ∧ ∃ A, Gr A H0 H)
    (hs : ∀ (x : α) (v : V) (s : σt) (σ : L2.St) (H H' : Hp) (N : L2.St → Hp → Prop), rel s σ H → Gr [] H H' → r H' x v → wp (f s x) (fun s' => ∀ σ' H', rel s' σ' H' → N σ' H') E →
      g v σ H' fun σ2 H2 => tb { D with nx := N, ct := N, bk := D.nx } σ2 H2) :
    ∃ W : Nat → Nat → L2.St → Hp → Prop, (∃ m, W 0 m σ H) ∧ ∀ i m σ H, W i m σ H →
      (J.stop i H ∧ D.nx σ H) ∨ (J.go i H ∧ ∃ N : L2.St → Hp → Prop, (∀ σ' H', N σ' H' → ∃ m', m' < m ∧ W (i + 1) m' σ' H') ∧ ∀ x H', J.yld i H x H' → g x σ H' fun σ2 H2 => tb { D with nx := N, ct := N, bk := D.nx } σ2 H2) := by
  obtain ⟨Y, wa, hy⟩ := w
  refine for_it wa (fun i σ H => ∃ s, rel s σ H ∧ wp (foldR f s (xs.drop i)) (fun s => ∀ σ H, rel s σ H → D.nx σ H) E) ⟨s0, h0, hm⟩ (fun i σ H _ ⟨s, hr, _⟩ => (hG s σ H hr).1) ?_ ?_
  · rintro i v σ H H' hi ⟨s, hr, hw⟩ y
    obtain ⟨A, ga⟩ := (hG s σ H hr).2
    obtain ⟨x, hx, g', hv⟩ := hy A i H v H' ga hi y
    have hw := foldR_step hi hw
    have e : xs[i] = x := by rw [List.getElem?_eq_getElem hi] at hx; exact Option.some.inj hx
    rw [e] at hw
    exact hs x v s σ H H' _ hr g' hv (wp_imp hw (fun s' hs' => fun σ' H' r' => ⟨s', r', hs'⟩) fun _ e => e)
  · rintro σ H ⟨s, hr, hw⟩
    exact foldR_end (Nat.le_refl _) hw σ H hr
theorem for_L (w : Wk J xs G r H0) {f : σt → α → R (Lp σt ρ)} {RT : ρ → Prop} (rel : σt → L2.St → Hp → Prop)
    (hm : wp (loopR f s0 xs) (leP (fun s => ∀ σ H, rel s σ H → D.nx σ H) RT) E) (h0 : rel s0 σ H) (hG : ∀ s σ H, rel s σ H → G H ∧ ∃ A, Gr A H0 H)
    (hs : ∀ (x : α) (v : V) (s : σt) (σ : L2.St) (H H' : Hp) (N : L2.St → Hp → Prop), rel s σ H → Gr [] H H' → r H' x v → wp (f s x) (lpP (fun s' => ∀ σ' H', rel s' σ' H' → N σ' H') (fun s' => ∀ σ' H', rel s' σ' H' → D.nx σ' H') RT) E →
      g v σ H' fun σ2 H2 => tb { D with nx := N, ct := N, bk := D.nx } σ2 H2) :
    ∃ W : Nat → Nat → L2.St → Hp → Prop, (∃ m, W 0 m σ H) ∧ ∀ i m σ H, W i m σ H →
      (J.stop i H ∧ D.nx σ H) ∨ (J.go i H ∧ ∃ N : L2.St → Hp → Prop, (∀ σ' H', N σ' H' → ∃ m', m' < m ∧ W (i + 1) m' σ' H') ∧ ∀ x H', J.yld i H x H' → g x σ H' fun σ2 H2 => tb { D with nx := N, ct := N, bk := D.nx } σ2 H2) := by
  obtain ⟨Y, wa, hy⟩ := w
  refine for_it wa (fun i σ H => ∃ s, rel s σ H ∧ wp (loopR f s (xs.drop i)) (leP (fun s => ∀ σ H, rel s σ H → D.nx σ H) RT) E) ⟨s0, h0, hm⟩ (fun i σ H _ ⟨s, hr, _⟩ => (hG s σ H hr).1) ?_ ?_
  · rintro i v σ H H' hi ⟨s, hr, hw⟩ y
    obtain ⟨A, ga⟩ := (hG s σ H hr).2
    obtain ⟨x, hx, g', hv⟩ := hy A i H v H' ga hi y
    have hw := loopR_step hi hw
    have e : xs[i] = x := by rw [List.getElem?_eq_getElem hi] at hx; exact Option.some.inj hx
    rw [e] at hw
    exact hs x v s σ H H' _ hr g' hv (wp_imp hw (fun s' hs' => (by
      cases s' with
      | nx s' => exact fun σ' H' r' => ⟨s', r', hs'⟩
      | bk s' => exact hs'
      | rt r => exact hs')) fun _ e => e)
  · rintro σ H ⟨s, hr, hw⟩
    exact loopR_end (Nat.le_refl _) hw σ H hr
theorem lc_R (w : Wk J xs G r H0) {f : σt → α → R σt} {Z : σt → Prop} {tt : TT} {te : TE} {own : List Nat} {H1 : Hp} {D : Addr} {Qd : Hp → Prop} (rel : σt → Hp → Prop)
    (hm : wp (foldR f s0 xs) Z E) (h0 : rel s0 (upd H1 D (.lst []))) (hG : ∀ s H, rel s H → G H ∧ ∃ A, Gr A H0 H)
    (hs : ∀ (x : α) (v : V) (s : σt) (H H' : Hp) (Nx : Hp → Prop), rel s H → Gr [] H H' → r H' x v → wp (f s x) (fun s' => ∀ H', rel s' H' → Nx H') E →
      g v (wipe σ own) H' fun σ2 H2 => wipe σ2 own = wipe σ own ∧ tt σ2 H2 fun b H3 => if b = true then te σ2 H3 fun y H4 => ∃ acc, H4 D = some (.lst acc) ∧ acc.length < sizeLine ∧ Nx (upd H4 D (.lst (acc ++ [y]))) else Nx H3)
    (hd : ∀ s H, rel s H → Z s → Qd H) :
    ∃ W : Nat → Nat → Hp → Prop, (∃ m, W 0 m (upd H1 D (.lst []))) ∧ ∀ i m H, W i m H →
      (J.stop i H ∧ Qd H) ∨ (J.go i H ∧ ∃ Nx : Hp → Prop, (∀ H', Nx H' → ∃ m', m' < m ∧ W (i + 1) m' H') ∧ ∀ x H', J.yld i H x H' → g x (wipe σ own) H' fun σ2 H2 => wipe σ2 own = wipe σ own ∧ tt σ2 H2 fun b H3 =>
        if b = true then te σ2 H3 fun y H4 => ∃ acc, H4 D = some (.lst acc) ∧ acc.length < sizeLine ∧ Nx (upd H4 D (.lst (acc ++ [y]))) else Nx H3) := by
  obtain ⟨Y, wa, hy⟩ := w
  refine lc_it wa (fun i H => ∃ s, rel s H ∧ wp (foldR f s (xs.drop i)) Z E) ⟨s0, h0, hm⟩ (fun i H _ ⟨s, hr, _⟩ => (hG s H hr).1) ?_ ?_
  · rintro i v H H' hi ⟨s, hr, hw⟩ y
    obtain ⟨A, ga⟩ := (hG s H hr).2
    obtain ⟨x, hx, g', hv⟩ := hy A i H v H' ga hi y
    have hw := foldR_step hi hw
    have e : xs[i] = x := by rw [List.getElem?_eq_getElem hi] at hx; exact Option.some.inj hx
    rw [e] at hw
    exact hs x v s H H' _ hr g' hv (wp_imp hw (fun s' hs' => fun H' r' => ⟨s', r', hs'⟩) fun _ e => e)
  · rintro H ⟨s, hr, hw⟩
    exact hd s H hr (foldR_end (Nat.le_refl _) hw)
end
end Mir
namespace Mir
open PySem PySem.Spec PyProof.Rows L2
variable [Nm]
section
variable {K : PySem.W.Frag} {σ : L2.St} {H : Hp} {l : TA} {R : It → Hp → Prop}
theorem rd_gtE {n : Nat} {g : TGs} {a : Addr} {u : V} {xs : List V} {Q : L2.St → Hp → Prop} (eu : u = .ref a) (h : SqT K H a xs) (e : xs.length = n) (q : g xs σ H Q) : gTup K n g u σ H Q := ⟨a, xs, eu, h, e, q⟩
theorem rd_r3 (h : l σ H fun vs H1 => ∃ i j c n, vs = [.int i, .int j, .int c] ∧ RgC i j c n ∧ R (Itc i c n) H1) : iRng3 l σ H R := h
def zipA (K : PySem.W.Frag) (R : It → Hp → Prop) (vs : List V) (H1 : Hp) : Prop := ∃ a b xs ys, vs = [.ref a, .ref b] ∧ ((SqL K H1 a xs ∧ SqL K H1 b ys ∧ R (Itz K a b) H1) ∨ (SqT K H1 a xs ∧ SqT K H1 b ys ∧ R (RZ.ItzT K a b) H1))
theorem rd_izip (h : l σ H (zipA K R)) : RZ.iZipA K l σ H R := h
def enumA (K : PySem.W.Frag) (R : It → Hp → Prop) (vs : List V) (H1 : Hp) : Prop := ∃ a xs, vs = [.ref a] ∧ SqL K H1 a xs ∧ R (Ite K a) H1
theorem rd_ienumerate (h : l σ H (enumA K R)) : iEnum K l σ H R := h
theorem zip_l {u v : V} {a b : Addr} {xs ys : List V} (e1 : u = .ref a) (e2 : v = .ref b) (h1 : SqL K H a xs) (h2 : SqL K H b ys) (h : R (Itz K a b) H) : zipA K R [u, v] H := ⟨a, b, xs, ys, by rw [e1, e2], .inl ⟨h1, h2, h⟩⟩
theorem zip_t {u v : V} {a b : Addr} {xs ys : List V} (e1 : u = .ref a) (e2 : v = .ref b) (h1 : SqT K H a xs) (h2 : SqT K H b ys) (h : R (RZ.ItzT K a b) H) : zipA K R [u, v] H := ⟨a, b, xs, ys, by rw [e1, e2], .inr ⟨h1, h2, h⟩⟩
theorem enum_l {a : Addr} {xs : List V} (h1 : SqL K H a xs) (h : R (Ite K a) H) : enumA K R [.ref a] H := ⟨a, xs, rfl, h1, h⟩
end
/-- the turns of a range with a step -/
def rg3n (i j c : Int) : Nat := (Builtin.Range.rangeSize i j c).toNat
def rg3Ok (i j c : Int) : Prop := c ≠ 0 ∧ c.natAbs < 1073741824 ∧ Builtin.Range.small i j c = true ∧ 0 ≤ Builtin.Range.rangeSize i j c
instance (i j c : Int) : Decidable (rg3Ok i j c) := inferInstanceAs (Decidable (_ ∧ _))
theorem rg3_of {i j c : Int} (h : rg3Ok i j c) : RgC i j c (rg3n i j c) := ⟨h.1, h.2.1, h.2.2.1, by unfold rg3n; have := h.2.2.2; omega⟩
section
variable {α β γ : Type} {K : PySem.W.Frag} {r : Rp α} {s : Rp β} {t : Rp γ} {H : Hp} {a : Addr} {v : V} {i : Int} {Q : VK} {E : Er → Prop} {xs : List α}
theorem ix_P20 {x : α × β} (h : rP K r s H x v) (e : ixN 2 i = some 0) (q : ∀ w, r H x.1 w → Q w H) : rIxT K v (.int i) H Q := by
  obtain ⟨a, y, z, rfl, h1, h2, h3⟩ := h

  exact ⟨a, [y, z], i, y, rfl, rfl, h1, by show (ixN 2 i).bind _ = _; rw [e]; rfl, q y h2⟩
theorem rP2_T {r : Rp α} {x : α × α} (h : rP K r r H x v) : rT K r H [x.1, x.2] v := by
  obtain ⟨a, y, z, rfl, h1, h2, h3⟩ := h
  exact ⟨a, rfl, [y, z], h1, .cons h2 (.cons h3 .nil)⟩
theorem rP3_T {r : Rp α} {x : α × α × α} (h : rP3 K r r r H x v) : rT K r H [x.1, x.2.1, x.2.2] v := by
  obtain ⟨a, y, z, u, rfl, h1, h2, h3, h4⟩ := h
  exact ⟨a, rfl, [y, z, u], h1, .cons h2 (.cons h3 (.cons h4 .nil))⟩
/-- an item of a pair, of three, by a written place -/
theorem ix_P2 {x : α × β} {P : V → Prop} (j : Nat) (h : rP K r s H x v) (e : ixN 2 i = some j) (hp : ∀ (a : Addr) (y z : V), r H x.1 y → s H x.2 z → ∃ w, [y, z][j]? = some w ∧ P w) (q : ∀ w, P w → Q w H) : rIxT K v (.int i) H Q := by
  obtain ⟨a, y, z, rfl, h1, h2, h3⟩ := h
  obtain ⟨w, hw, pw⟩ := hp a y z h2 h3
  exact ⟨a, [y, z], i, w, rfl, rfl, h1, by show (ixN 2 i).bind _ = _; rw [e]; exact hw, q w pw⟩
theorem ix_P3 {x : α × β × γ} {P : V → Prop} (j : Nat) (h : rP3 K r s t H x v) (e : ixN 3 i = some j) (hp : ∀ (a : Addr) (y z u : V), r H x.1 y → s H x.2.1 z → t H x.2.2 u → ∃ w, [y, z, u][j]? = some w ∧ P w) (q : ∀ w, P w → Q w H) : rIxT K v (.int i) H Q := by
  obtain ⟨a, y, z, u, rfl, h1, h2, h3, h4⟩ := h
  obtain ⟨w, hw, pw⟩ := hp a y z u h2 h3 h4
  exact ⟨a, [y, z, u], i, w, rfl, rfl, h1, by show (ixN 3 i).bind _ = _; rw [e]; exact hw, q w pw⟩
theorem ix_P21 {x : α × β} (h : rP K r s H x v) (e : ixN 2 i = some 1) (q : ∀ w, s H x.2 w → Q w H) : rIxT K v (.int i) H Q := ix_P2 1 h e (fun _ y z _ h => ⟨z, rfl, h⟩) q
theorem ix_P30 {x : α × β × γ} (h : rP3 K r s t H x v) (e : ixN 3 i = some 0) (q : ∀ w, r H x.1 w → Q w H) : rIxT K v (.int i) H Q := ix_P3 0 h e (fun _ y z u h _ _ => ⟨y, rfl, h⟩) q
theorem ix_P31 {x : α × β × γ} (h : rP3 K r s t H x v) (e : ixN 3 i = some 1) (q : ∀ w, s H x.2.1 w → Q w H) : rIxT K v (.int i) H Q := ix_P3 1 h e (fun _ y z u _ h _ => ⟨z, rfl, h⟩) q
theorem ix_P32 {x : α × β × γ} (h : rP3 K r s t H x v) (e : ixN 3 i = some 2) (q : ∀ w, t H x.2.2 w → Q w H) : rIxT K v (.int i) H Q := ix_P3 2 h e (fun _ y z u _ _ h => ⟨u, rfl, h⟩) q
/-- the last item taken away -/
def popL (xs : List α) : R (α × List α) := match xs[xs.length - 1]? with
  | some x => .ok (x, xs.dropLast)
  | none => .out
def popAtL (xs : List α) (i : Int) : R (α × List α) := if -(2 ^ 63) ≤ i ∧ i < 2 ^ 63 then match seqIndex? i xs.length with
  | some k => match xs[k]? with
    | some x => .ok (x, xs.eraseIdx k)
    | none => .out
  | none => .out else .out
theorem Paired.dropLast {q : α → V → Prop} : ∀ {xs : List α} {vs : List V}, Paired q xs vs → Paired q xs.dropLast vs.dropLast
  | _, _, .nil => .nil
  | _, _, .cons _ .nil => .nil
  | _, _, .cons h (.cons h2 t) => .cons h (Paired.dropLast (.cons h2 t))
theorem Paired.erase {q : α → V → Prop} : ∀ {xs : List α} {vs : List V} (k : Nat), Paired q xs vs → Paired q (xs.eraseIdx k) (vs.eraseIdx k)
  | _, _, _, .nil => .nil
  | _, _, 0, .cons _ t => t
  | _, _, k + 1, .cons h t => .cons h (Paired.erase k t)
theorem rd_pop [Imm r] {Z : α × List α → Prop} (h : Ls r H a xs) (hm : wp (popL xs) Z E) (q : ∀ (t : α × List α) w H', Gr [a] H H' → Ls r H' a t.2 → r H' t.1 w → Z t → Q w H') : rPop (.ref a) [] H Q := by
  obtain ⟨vs, h1, h2⟩ := h
  unfold popL at hm
  cases e : xs[xs.length - 1]? with
  | none =>
    rw [e] at hm
    exact hm.elim
  | some x =>
    rw [e] at hm
    obtain ⟨w, hw, hr⟩ := Paired.at h2 e
    rw [Paired.length h2] at hw
    exact ⟨a, vs, w, rfl, rfl, h1, hw, q (x, xs.dropLast) w _ (Gr.set h1) ⟨_, upd_same, Paired.imm (Gr.set h1) (Paired.dropLast h2)⟩ (Imm.mono (Gr.set h1) hr) hm⟩
theorem rd_popAt [Imm r] {Z : α × List α → Prop} (h : Ls r H a xs) (hm : wp (popAtL xs i) Z E) (q : ∀ (t : α × List α) w H', Gr [a] H H' → Ls r H' a t.2 → r H' t.1 w → Z t → Q w H') : rPopAt (.ref a) [.int i] H Q := by
  obtain ⟨vs, h1, h2⟩ := h
  unfold popAtL at hm
  by_cases b : -(2 ^ 63) ≤ i ∧ i < 2 ^ 63
  · rw [if_pos b] at hm
    cases e : seqIndex? i xs.length with
    | none =>
      rw [e] at hm
      exact hm.elim
    | some k =>
      rw [e] at hm
      cases e2 : xs[k]? with
      | none =>
        simp only [e2] at hm
        exact hm.elim
      | some x =>
        simp only [e2] at hm
        obtain ⟨w, hw, hr⟩ := Paired.at h2 e2
        exact ⟨a, vs, i, k, w, rfl, rfl, h1, b.1, b.2, by rw [← Paired.length h2]; exact e, hw, q (x, xs.eraseIdx k) w _ (Gr.set h1) ⟨_, upd_same, Paired.imm (Gr.set h1) (Paired.erase k h2)⟩ (Imm.mono (Gr.set h1) hr) hm⟩
  · rw [if_neg b] at hm
    exact hm.elim
theorem any_ints {ns : List Int} : (ns.map V.int).any truF = ns.any fun n => n != 0 := by
  induction ns with
  | nil => rfl
  | cons n ns ih => show (truF (V.int n) || _) = _; rw [ih]; rfl
theorem any_bls {bs : List Bool} : (bs.map V.bl).any truF = bs.any id := by
  induction bs with
  | nil => rfl
  | cons n ns ih => show (truF (V.bl n) || _) = _; rw [ih]; rfl
theorem bls_of {ns : List Bool} {vs : List V} (h : Paired (rB H) ns vs) : vs = ns.map V.bl := by
  induction h with
  | nil => rfl
  | cons h _ ih => rw [ih, show _ = V.bl _ from h] <;> rfl
theorem flat_ints {ns : List Int} : ∀ x ∈ ns.map V.int, isF x = true := fun x h => by
  obtain ⟨n, _, rfl⟩ := List.mem_map.mp h
  rfl
theorem flat_bls {ns : List Bool} : ∀ x ∈ ns.map V.bl, isF x = true := fun x h => by
  obtain ⟨n, _, rfl⟩ := List.mem_map.mp h
  rfl
theorem any_LI {ns : List Int} (h : Lq K rI H a ns) (q : Q (.bl (ns.any fun n => n != 0)) H) : ap3 (rAnyF K) [.ref a] H Q := by
  obtain ⟨vs, h1, h2⟩ := h
  obtain rfl := ints_of h2
  exact ⟨a, _, rfl, .inl h1, flat_ints, any_ints ▸ q⟩
theorem any_LB {ns : List Bool} (h : Lq K rB H a ns) (q : Q (.bl (ns.any id)) H) : ap3 (rAnyF K) [.ref a] H Q := by
  obtain ⟨vs, h1, h2⟩ := h
  obtain rfl := bls_of h2
  exact ⟨a, _, rfl, .inl h1, flat_bls, any_bls ▸ q⟩
theorem any_TI {ns : List Int} (h : rT K rI H ns v) (q : Q (.bl (ns.any fun n => n != 0)) H) : ap3 (rAnyF K) [v] H Q := by
  obtain ⟨a, rfl, vs, h1, h2⟩ := h
  obtain rfl := ints_of h2
  exact ⟨a, _, rfl, .inr h1, flat_ints, any_ints ▸ q⟩
theorem any_TB {ns : List Bool} (h : rT K rB H ns v) (q : Q (.bl (ns.any id)) H) : ap3 (rAnyF K) [v] H Q := by
  obtain ⟨a, rfl, vs, h1, h2⟩ := h
  obtain rfl := bls_of h2
  exact ⟨a, _, rfl, .inr h1, flat_bls, any_bls ▸ q⟩
end
end Mir
namespace Mir
open PySem PySem.Spec PyProof.Rows L2
variable [Nm]
/-! ### rules whose reading names the frozen part: it is told -/
section
variable {X : Cx} {K : PySem.W.Frag}
theorem ix_listK (e : X.K = K) : IxR X (rIxL K) := e ▸ ix_list
theorem ix_tupK (e : X.K = K) : IxR X (rIxT K) := e ▸ ix_tup
theorem sl_listK (e : X.K = K) : SlR X (rSlL K) := e ▸ sl_list
theorem sl_tupK (e : X.K = K) : SlR X (rSlT K) := e ▸ sl_tup
theorem sortedIK (e : X.K = K) : CallR X (.builtin "sorted") (rSortedI K) := e ▸ cr_sortedI
theorem anyFK (hc : X.calm = true) (e : X.K = K) : CallR X (.builtin "any") (rAnyF K) := e ▸ cr_anyF hc
theorem isiK (e : X.K = K) : CallR X (.builtin "isinstance") (rIsi K) := e ▸ call_isi
theorem catTK (e : X.K = K) : OpR X (binaryOp .Add) (rCatT K) := e ▸ op_catT
theorem inK (e : X.K = K) : OpR X (compareOp .In) (rIn K false) := e ▸ op_in_seq
theorem notInK (e : X.K = K) : OpR X (compareOp .NotIn) (rIn K true) := e ▸ op_notIn_seq
theorem eqDK (h : X.A.units + 64 < cLine) (e : X.K = K) : OpR X (compareOp .Eq) (rEqD K) := e ▸ op_eqD h
theorem neDK (h : X.A.units + 64 < cLine) (e : X.K = K) : OpR X (compareOp .NotEq) (rNeD K) := e ▸ op_neD h
theorem lenK (e : X.K = K) : CallR X (.builtin "len") (fun xs H Q => ∃ p ys, xs = [.ref p] ∧ (SqL K H p ys ∨ SqT K H p ys) ∧ Q (.int ys.length) H) := e ▸ call_len_seq
theorem tupleK (e : X.K = K) : CallR X (.type "tuple") (fun xs H Q => ∃ p ys, xs = [.ref p] ∧ ((SqL K H p ys ∧ ∀ l : Addr, H l = none → Q (.ref l) (upd H l (.tup ys))) ∨ SqT K H p ys ∧ Q (.ref p) H)) := e ▸ call_tuple_of
theorem listK (e : X.K = K) : CallR X (.type "list") (fun xs H Q => ∃ p ys, xs = [.ref p] ∧ (SqL K H p ys ∨ SqT K H p ys) ∧ ∀ l : Addr, H l = none → Q (.ref l) (upd H l (.lst ys))) := e ▸ call_list_of
end
end Mir
namespace Mir
open PySem PySem.Spec PyProof.Rows L2
variable [Nm]
section
variable {X : Cx} {K : PySem.W.Frag}
theorem pi_listK {tg l : Expr} {tl : TE} (h : PE X l tl) (e : X.K = K) : PI X tg l (iList K tl) := e ▸ pi_list h
theorem pi_tupK {tg l : Expr} {tl : TE} (h : PE X l tl) (e : X.K = K) : PI X tg l (iTup K tl) := e ▸ pi_tup h
theorem pi_zipK {e1 e2 : Expr} {ta : TA} {p pos tpos : Pos} {elts : List Expr} {kk : Nat} (hg : Gl X "zip") (hm : X.mg "zip" = none) (ha : PA X [e1, e2] ta) (e : X.K = K)
    (he : starEach [e1, e2] X.env = (false, eval e1 X.env) :: starEach [e2] X.env := by rfl) (hpl : (backTo pos (starEach [e2] X.env)).any (·.1) = false := by rfl) :
    PI X (.Tuple elts kk tpos) (.Call (.Name "zip" p) [e1, e2] [] pos) (RZ.iZipA K ta) := e ▸ RZ.pi_zipA hg hm ha he hpl
theorem pi_enumK {e1 : Expr} {ta : TA} {p pos tpos : Pos} {elts : List Expr} {kk : Nat} (hg : Gl X "enumerate") (hm : X.mg "enumerate" = none) (ha : PA X [e1] ta) (e : X.K = K)
    (he : starEach [e1] X.env = [(false, eval e1 X.env)] := by rfl) :
    PI X (.Tuple elts kk tpos) (.Call (.Name "enumerate" p) [e1] [] pos) (iEnum K ta) := e ▸ pi_enum hg hm ha he
end
end Mir
namespace Mir
open PySem PySem.Spec PyProof.Rows L2
variable [Nm]
theorem ne_of_st {α : Type} {r : Rp α} {A : List Addr} {q v : Addr} {H : Hp} {xs : List α} (st : q ∈ A ∨ H q = none) (n : v ∉ A) (h : Ls r H v xs) : v ≠ q := fun e => st.elim (fun m => n (e ▸ m)) fun z => h.ne z e
end Mir
namespace Mir
open PySem PySem.Spec PyProof.Rows L2
variable [Nm]
/-! ### a list that is put into something stands still from then on -/
def tFrz (t : TE) : TE := fun σ H Q => t σ H fun v H1 => ∃ a u, v = .ref a ∧ H1 a = some u ∧ Mut (some u) ∧ ∀ od, Q v (upd H1 a (.frz od u))
theorem pe_frz {X : Cx} {e : Expr} {t : TE} (h : PE X e t) : PE X e (tFrz t) := ⟨fun pins s σ H Q I hw => thn (h.run pins s σ H _ I hw) fun v s1 hh => by
  obtain ⟨x, H1, I1, r, a, u, rfl, ha, mu, q⟩ := hh
  obtain ⟨od, I2⟩ := I1.lock ha mu
  exact ⟨.ref a, _, I2, r, q od⟩⟩
section
variable {α : Type} {K : PySem.W.Frag} {r : Rp α} {H H' : Hp} {a b : Addr} {xs : List α} {vs : List V} {v : V} {Q : VK}
/-- a list that stands still -/
def rZ (r : Rp α) : Rp (List α) := fun H xs v => ∃ a o vs, v = .ref a ∧ H a = some (.frz o (.lst vs)) ∧ Paired (r H) xs vs
instance [Imm r] : Imm (rZ r) := ⟨fun g ⟨a, o, vs, e, h, h2⟩ => ⟨a, o, vs, e, g _ _ h rfl, Paired.im g h2⟩⟩
theorem rZ_q (h : rZ r H xs v) : ∃ a, v = .ref a ∧ Lq K r H a xs := let ⟨a, o, vs, e, h1, h2⟩ := h; ⟨a, e, vs, .inl (.inr ⟨o, h1⟩), h2⟩
theorem Im.frz {o : Obj} {u : HO} (h : H a = some u) (k : kd u ≠ 0) : Im H (upd H a (.frz o u)) := fun b w q z => by
  by_cases e : b = a
  · subst e
    rw [h] at q
    cases q
    exact absurd z k
  · rw [upd_ne e]
    exact q
/-- what the freezing of the list at a leaves of the rest -/
structure Fz (a : Addr) (H H' : Hp) : Prop where
  im : Im H H'
  ne : ∀ b o, b ≠ a → H b = some o → H' b = some o
  at_ : H' a ≠ none
def frzA (Q : VK) (v : V) (H1 : Hp) : Prop := ∃ b u, v = .ref b ∧ H1 b = some u ∧ Mut (some u) ∧ ∀ od, Q v (upd H1 b (.frz od u))
/-- the form that a printed text uses: the value is a list of its own at hand -/
theorem fz_L [Imm r] (h : Ls r H a xs) (q : ∀ H2, Fz a H H2 → rZ r H2 xs (.ref a) → Q (.ref a) H2) : frzA Q (.ref a) H := by
  obtain ⟨vs, h1, h2⟩ := h
  have g : ∀ od, Im H (upd H a (.frz od (.lst vs))) := fun od => Im.frz h1 (by show 1 ≠ 0; decide)
  exact ⟨a, _, rfl, h1, trivial, fun od => q _ ⟨g od, fun b o n hb => by rw [upd_ne n]; exact hb, by rw [upd_same]; intro z; cases z⟩ ⟨a, od, vs, rfl, upd_same, Paired.im (g od) h2⟩⟩
theorem rd_frzE {t : TE} {σ : L2.St} (h : t σ H (frzA Q)) : tFrz t σ H Q := h
theorem Ls.fz [Imm r] (g : Fz a H H') (n : b ≠ a) (h : Ls r H b xs) : Ls r H' b xs := let ⟨vs, h1, h2⟩ := h; ⟨vs, g.ne _ _ n h1, Paired.im g.im h2⟩
theorem Gr.fz {A : List Addr} {H0 : Hp} (g : Gr A H0 H) (n : H0 a = none) (f : Fz a H H') : Gr A H0 H' := ⟨fun b o h => by
  obtain ⟨o', h1, h2⟩ := g.ob b o h
  exact ⟨o', f.ne _ _ (fun e => by rw [e, n] at h; cases h) h1, h2⟩, fun P t => by
  obtain ⟨ps, h1, h2, h3⟩ := g.tb P t
  refine ⟨ps, f.ne _ _ (fun e => ?_) h1, h2, fun pos cv hc => ?_⟩
  · obtain ⟨_, t1, _⟩ := t
    rw [e, n] at t1
    cases t1
  · obtain ⟨c, e1, e2⟩ := h3 pos cv hc
    exact ⟨c, e1, f.im _ _ e2 kd_code⟩⟩
end
end Mir
set_option Elab.async false
set_option linter.all false
set_option maxRecDepth 100000
namespace Mir
open PySem PySem.Spec PyProof.Rows L2 NdefX
variable [Nm]
open LamX (CodeO TabB)
/-! ### lambdas with parameters, handed to a def -/
/-- the words of a lambda -/
structure LW where
  qual : Str
  params : Arguments
  body : Expr
  scope : Scope
abbrev LW.nf (L : LW) (cl : List (Str × Addr)) (c : Addr) : NF := ⟨"<lambda>", L.qual, L.params, [], L.scope, cl, c⟩
/-- the object at f is the lambda -/
def LamObj (L : LW) (f c : Addr) (cl : List (Str × Addr)) (h : Heap) : Prop := ∃ pm ctv : Value, h.get? f = some (PySem.W.kla_obj "<lambda>" L.qual L.params L.body L.scope cl pm c ctv)
/-- what a lambda promises: sp ws, ws what its captured cells hold -/
structure LOk (P : Program) (w : World) (K : PySem.W.Frag) (mg : Str → Option Value) (base : Heap) (CX : CXT) (k : Nat) (L : LW) (ps fr : List Str) (sp : List (Option V) → Sp) : Prop where
  len : ∀ ws vs H Q E, sp ws vs H Q E → vs.length = ps.length
  run : ∀ (A : Around) (outer : List Env) (s : Shared) (H : Hp) (us : List Value) (vs : List V) (ws : List (Option V)) (Q : VK) (E : XK) (f c : Addr) (cl : List (Str × Addr)), Room k A → Env0 P w K mg base A outer s H → LamObj L f c cl s.heap → H c = some (CodeO c L.qual) →
    CellsAt cl fr ws s.heap H → Vals vs us → sp ws vs H Q E → codeAny (model P w) A (.call (.ref f) ⟨us, []⟩) (CR CX outer P w H s Q E) s
section
variable {CX : CXT} {P : Program} {w : World} {K : PySem.W.Frag} {mg : Str → Option Value} {base : Heap} {N ps fr : List Str} {L : LW} {k j : Nat} {sp : List (Option V) → Sp}
theorem LOk.mono (o : LOk P w K mg base CX j L ps fr sp) (h : j ≤ k) : LOk P w K mg base CX k L ps fr sp := ⟨o.len, fun A outer s H us vs ws Q E f c cl hr => o.run A outer s H us vs ws Q E f c cl (hr.mono h)⟩
theorem lok_of (S : NScope N ps fr L.scope) (hb : ∀ (cl : List (Str × Addr)) (pm cv ctv : Value) (us : List Value), us.length = ps.length → bindArgs (PySem.W.kla_fn "<lambda>" L.qual L.params L.body L.scope cl pm cv ctv) ⟨us, []⟩ = pure (ps.zip us))
    (len : ∀ ws vs H Q E, sp ws vs H Q E → vs.length = ps.length)
    (hbody : ∀ (A : Around) (outer : List Env) (s : Shared) (H : Hp) (vs : List V) (ws : List (Option V)) (Q : VK) (E : XK) (f c : Addr) (cl : List (Str × Addr)), Room k (A.deeper (envF (L.nf cl c) f s.heap.objs.size)) → sp ws vs H Q E →
      ∃ t : TE, PE (ncx CX P w K mg base N (L.nf cl c) f A outer s H E) L.body t ∧ t (startF N vs ws) H Q) :
    LOk P w K mg base CX (k + 1) L ps fr sp := by
  refine ⟨len, fun A outer s H us vs ws Q E f c cl hr e0 hf hc C r hsp => ?_⟩
  have hl := len _ _ _ _ _ hsp
  have lim : s.heap.NoLimit := e0.mod.nolimit.keeps fun b o e => (e0.bs b o e).1
  obtain ⟨pm, ctv, ho⟩ := hf
  refine PySem.W.kla_callFunE hr.depth ho rfl S.co S.gen rfl (codeO_at e0.hok hc) ?_
  rw [hb cl pm _ ctv us (by rw [← r.length]; exact hl)]
  refine wpAny_pure (wpAny_newFunctionEnv S.nocell (fun ⟨n, _⟩ hy => S.par n (List.of_mem_zip hy).1) (fun h₁ hns hsb => ⟨lim.fresh _ hsb, ?_⟩) S.kind)
  show codeAny _ _ (.expr L.body (envF (L.nf cl c) f s.heap.objs.size)) _ _
  have kp : ∀ b o, s.heap.get? b = some o → h₁.get? b = some o := fun b o e => hsb.extBut b o (Nat.ne_of_lt (Heap.lt_size e)) (Heap.get?_push_of_some _ e)
  obtain ⟨t, ht, hq⟩ := hbody A outer s H vs ws Q E f c cl (hr.deeper _) hsp
  have I : Inv (ncx CX P w K mg base N (L.nf cl c) f A outer s H E) [] (startF N vs ws) H { s with heap := h₁, toks := s.toks + (ps.zip us).length } := inv_startN S hr.hd e0 hl r C hns kp
  refine PySem.W.kla_codeExpr (wpAny_mono (ht.run [] _ (startF N vs ws) H _ I hq) (fun v s' hs => ?_) fun e s' hs => hs)
  obtain ⟨w', H', J, rv, q⟩ := hs
  exact ⟨w', H', J.os, J.bare, J.base, J.hok, rv, q⟩
end
/-- the lambda at the entry of the def that got it -/
structure LamEnt (L : LW) (f c : Addr) (cl : List (Str × Addr)) (fr : List Str) (ws : List (Option V)) (fs : List Addr) (s : Shared) (H : Hp) : Prop where
  obj : LamObj L f c cl s.heap
  fn : H f = none
  nfr : f ∉ fs
  cells : CellsAt cl fr ws s.heap H
section
variable {X : Cx} {pins : List (Addr × Obj)} {σ : L2.St} {H : Hp} {s : Shared} {cl : List (Str × Addr)} {fr : List Str} {ws : List (Option V)} {L : LW} {f c : Addr}
theorem cells_later (C : CellsAt cl fr ws X.s_0.heap X.H_0) (hx : X.ex = []) (I : Inv X pins σ H s) : CellsAt cl fr ws s.heap H := by
  have nx : ∀ b : Addr, b ∉ X.ex := fun b z => by
    rw [hx] at z
    exact absurd z (by simp)
  have kp : ∀ y c, cl.lookup y = some c → ∀ v, X.s_0.heap.IsCell c v → s.heap.IsCell c v := fun y c e v ⟨o, ho, hd⟩ => by
    obtain ⟨sl, q⟩ := I.base.any ho (C.all y c e).1 (nx c)
    exact ⟨_, q, hd⟩
  refine ⟨C.len, fun y c e => ?_, C.inj, fun i y e => ?_⟩
  · obtain ⟨n, v, z⟩ := C.all y c e
    refine ⟨?_, v, kp y c e v z⟩
    obtain ⟨o, ho, _⟩ := z
    exact I.base.free c o ho n (nx c)
  · obtain ⟨c, hc, hv⟩ := C.has i y e
    refine ⟨c, hc, fun v ev => ?_⟩
    obtain ⟨u, r, z⟩ := hv v ev
    exact ⟨u, r, kp y c hc _ z⟩
theorem obj_later (T : LamEnt L f c cl fr ws X.fs X.s_0 X.H_0) (hx : X.ex = []) (I : Inv X pins σ H s) : LamObj L f c cl s.heap := by
  obtain ⟨pm, ctv, ho⟩ := T.obj
  exact ⟨pm, ctv, I.base.keep f _ ho T.fn T.nfr fun z => by
    rw [hx] at z
    exact absurd z (by simp)⟩
theorem lam_fnAt {h : Heap} (o : LamObj L f c cl h) : PySem.W.FnAt f h := by
  obtain ⟨pm, ctv, ho⟩ := o
  exact ⟨_, _, _, _, ho⟩
end
/-- x(..), x a name that holds the lambda -/
def tAct (i : Nat) (f c : Addr) (q : Str) (sp : Sp) (E : L2.St → XK) (t : TA) : TE := fun σ H Q => σ[i]? = some (some (.ref f)) ∧ t σ H fun vs H1 => H1 c = some (CodeO c q) ∧ sp vs H1 Q (E σ)
section
variable {X : Cx} {CX : CXT} {cl : List (Str × Addr)} {ps fr : List Str} {ws : List (Option V)} {i j k : Nat} {x : Str} {L : LW} {f c : Addr} {sp : List (Option V) → Sp} {E : L2.St → XK} {t : TA} {e : Expr} {es : List Expr} {p pos : Pos}
theorem pe_act (T : LamEnt L f c cl fr ws X.fs X.s_0 X.H_0) (hX : X.ex = []) (O : LOk X.prog X.w X.K X.mg X.base CX k L ps fr sp) (hr : Room j X.A) (hk : k ≤ j) (hx : ∀ σ, PassesAt CX X σ (E σ)) (hN : X.N[i]? = some x) (hv : Vis X.env.scope x) (ha : PA X (e :: es) t)
    (hd : (x == ("__debug__" : Str)) = false := by decide) (hcd : (x == ("__classdict__" : Str)) = false := by decide)
    (he : starEach (e :: es) X.env = (false, eval e X.env) :: starEach es X.env := by rfl) (hpl : (backTo pos (starEach es X.env)).any (·.1) = false := by rfl) :
    PE X (.Call (.Name x p) (e :: es) [] pos) (tAct i f c L.qual (sp ws) E t) := by
  refine ⟨fun pins s σ H Q I h => ?_⟩
  obtain ⟨hs, ht⟩ := h
  refine wpAny_Call_Name_kw (thn ((pe_var (pos := p) hN hv hd hcd).run pins s σ H (fun v H1 => v = .ref f ∧ H1 = H) I ⟨.ref f, hs, rfl, rfl⟩) fun u s1 ⟨v, H1, I1, r1, q1⟩ => ?_)
  obtain ⟨ev, eH⟩ := q1
  subst ev
  rw [eH] at I1
  obtain rfl : u = Value.ref f := r1
  refine PySem.W.callWith_F (first := []) (lam_fnAt (obj_later T hX I1)) (thn (ha.run pos pins s1 σ H _ I1 ht) fun us s2 ⟨vs, H2, I2, r, h2, q⟩ => ⟨lam_fnAt (obj_later T hX I2), ?_⟩) he hpl
  show wpAny _ _ (call (.ref f) us) _ _ _
  refine wpAny_call (codeAny_mono (O.run X.A X.stack s2 H2 us vs ws Q (E σ) f c cl (hr.mono hk) I2.env0 (obj_later T hX I2) h2 (cells_later T.cells hX I2) r q) fun r s' hq => ?_)
  cases r with
  | error e => exact hx σ pins H2 s2 e s' I2 hq
  | ok fl =>
    cases fl with
    | ret u => exact I2.after hq
    | next => exact False.elim hq
    | brk => exact False.elim hq
    | cont => exact False.elim hq
end
/-! ### the def that gets the lambda -/
/-- its promise, told of the very state: the lambda's object stands there, its captured cells hold ws -/
structure FnOkC (P : Program) (w : World) (K : PySem.W.Frag) (mg : Str → Option Value) (base : Heap) (CX : CXT) (k : Nat) (f : Addr) (fd : FuncData) (ps : List Str) (L : LW) (fr : List Str) (sp : Addr → Addr → List (Option V) → Sp) : Prop where
  len : ∀ lf lc ws vs H Q E, sp lf lc ws vs H Q E → vs.length = ps.length
  run : ∀ (A : Around) (outer : List Env) (s : Shared) (H : Hp) (args : Args) (us : List Value) (vs : List V) (Q : VK) (E : XK) (lf lc : Addr) (cl : List (Str × Addr)) (ws : List (Option V)), Room k A → Env0 P w K mg base A outer s H → LamEnt L lf lc cl fr ws (frs outer) s H →
    BindsTo s fd args (ps.zip us) → Vals vs us → sp lf lc ws vs H Q E → codeAny (model P w) A (.call (.ref f) args) (CR CX outer P w H s Q E) s
def CalC (P : Program) (w : World) (K : PySem.W.Frag) (mg : Str → Option Value) (base : Heap) (CX : CXT) (k : Nat) (x : Str) (ps : List Str) (L : LW) (fr : List Str) (sp : Addr → Addr → List (Option V) → Sp) : Prop :=
  ∃ (f : Addr) (fd : FuncData), FnOkC P w K mg base CX k f fd ps L fr sp ∧ mg x = some (.ref f) ∧ PySem.W.keepIn K (.ref f) = true ∧ Binds K fd ps []
section
variable {P : Program} {w : World} {K : PySem.W.Frag} {mg : Str → Option Value} {base : Heap} {L : LW} {fr : List Str}
theorem fun_okC {CX : CXT} {x qual : Str} {st : Stmt} {f : Addr} {fd : FuncData} {N ps : List Str} {k : Nat} {sp : Addr → Addr → List (Option V) → Sp} (F : Fun K x qual st f fd) (S : FnScope N ps (defScope st)) (len : ∀ lf lc ws vs H Q E, sp lf lc ws vs H Q E → vs.length = ps.length)
    (hbody : ∀ (cdv : Value) (A : Around) (outer : List Env) (s : Shared) (H : Hp) (vs : List V) (Q : VK) (E : XK) (lf lc : Addr) (cl : List (Str × Addr)) (ws : List (Option V)), Room k (A.deeper (envOfC qual (defScope st) s.heap.objs.size f cdv)) → LamEnt L lf lc cl fr ws (frs outer) s H → sp lf lc ws vs H Q E →
      ∃ t, PSs (cxOf CX P w K mg base N qual (defScope st) f cdv A outer s H E) (defBody st) t ∧ t { nx := fun _ H' => Q .non H', rt := Q } (start N vs) H) : FnOkC P w K mg base CX (k + 1) f fd ps L fr sp := by
  obtain ⟨oc, od, kV, doc, pm, an, cdv, ct, osl, rfl, lk, hcd⟩ := F.ex
  exact ⟨len, fun A outer s H args us vs Q E lf lc cl ws hr e0 T hb r hsp => LamX.run_ofS lk hcd S hr e0 hb r (len _ _ _ _ _ _ _ hsp) fun hr' => hbody cdv A outer s H vs Q E lf lc cl ws hr' T hsp⟩
/-- the same for a def that lets nothing out -/
theorem fun_okC0 {x qual : Str} {st : Stmt} {f : Addr} {fd : FuncData} {N ps : List Str} {k : Nat} {sp : Addr → Addr → List (Option V) → Sp} (F : Fun K x qual st f fd) (S : FnScope N ps (defScope st)) (len : ∀ lf lc ws vs H Q E, sp lf lc ws vs H Q E → vs.length = ps.length)
    (hbody : ∀ (cdv : Value) (A : Around) (outer : List Env) (s : Shared) (H : Hp) (vs : List V) (Q : VK) (E : XK) (lf lc : Addr) (cl : List (Str × Addr)) (ws : List (Option V)), Room k (A.deeper (envOfC qual (defScope st) s.heap.objs.size f cdv)) → LamEnt L lf lc cl fr ws (frs outer) s H → sp lf lc ws vs H Q E →
      ∃ t, PSs (cxOf CX0 P w K mg base N qual (defScope st) f cdv A outer s H E).nox (defBody st) t ∧ t { nx := fun _ H' => Q .non H', rt := Q } (start N vs) H) : FnOkC P w K mg base CX0 (k + 1) f fd ps L fr sp :=
  fun_okC F S len fun cdv A outer s H vs Q E lf lc cl ws hr T h =>
    let ⟨t, p, q⟩ := hbody cdv A outer s H vs Q E lf lc cl ws hr T h
    ⟨t, p.nox, q⟩
end
/-! ### the maker -/
/-- a def that makes lambdas: as Fun, and its code object at c has the table P -/
structure FunT (K : PySem.W.Frag) (x qual : Str) (st : Stmt) (f : Addr) (fd : FuncData) (c P : Addr) : Prop where
  ex : ∃ (oc : Value) (od : Option Addr) (kV doc pm : Value) (an : Option Addr) (ct : Value) (osl : Array (Option Value)),
    fd = PySem.W.fnOf x qual (defArgs st) (defBody st) (defScope st) .none kV doc pm an (.ref c) ct ∧ K.lookup f = some ⟨oc, od, .func fd, osl⟩ ∧ PySem.W.codeIn K (.ref c) qual = true
section
variable {P : Program} {w : World} {K : PySem.W.Frag} {mg : Str → Option Value} {base : Heap}
theorem funT_ok {x qual : Str} {st : Stmt} {f c PT : Addr} {fd : FuncData} {N ps : List Str} {k : Nat} {sp : Sp} (F : FunT K x qual st f fd c PT) (S : FnScope N ps (defScope st)) (len : ∀ vs H Q E, sp vs H Q E → vs.length = ps.length)
    (hbody : ∀ (A : Around) (outer : List Env) (s : Shared) (H : Hp) (vs : List V) (Q : VK) (E : XK), Room k (A.deeper (envOfC qual (defScope st) s.heap.objs.size f (.ref c))) → sp vs H Q E →
      ∃ t, PSs (cxOf CX0 P w K mg base N qual (defScope st) f (.ref c) A outer s H E).nox (defBody st) t ∧ t { nx := fun _ H' => Q .non H', rt := Q } (start N vs) H) : FnOk P w K mg base CX0 (k + 1) f fd ps sp := by
  obtain ⟨oc, od, kV, doc, pm, an, ct, osl, rfl, lk, hcd⟩ := F.ex
  refine fn_of lk hcd S len fun A outer s H vs Q E hr hsp => ?_
  obtain ⟨t, h, q⟩ := hbody A outer s H vs Q E hr hsp
  exact ⟨t, h.nox, q⟩
theorem funT_okX {x qual : Str} {st : Stmt} {f c PT : Addr} {fd : FuncData} {N ps : List Str} {k : Nat} {sp : Sp} (F : FunT K x qual st f fd c PT) (S : FnScope N ps (defScope st)) (len : ∀ vs H Q E, sp vs H Q E → vs.length = ps.length)
    (hbody : ∀ (A : Around) (outer : List Env) (s : Shared) (H : Hp) (vs : List V) (Q : VK) (E : XK), Room k (A.deeper (envOfC qual (defScope st) s.heap.objs.size f (.ref c))) → sp vs H Q E →
      ∃ t, PSs (cxOf (L2.CX P w) P w K mg base N qual (defScope st) f (.ref c) A outer s H E) (defBody st) t ∧ t { nx := fun _ H' => Q .non H', rt := Q } (start N vs) H) : FnOk P w K mg base (L2.CX P w) (k + 1) f fd ps sp := by
  obtain ⟨oc, od, kV, doc, pm, an, ct, osl, rfl, lk, hcd⟩ := F.ex
  exact fn_of lk hcd S len fun A outer s H vs Q E hr hsp => hbody A outer s H vs Q E hr hsp
end
/-- the arguments, the last one a lambda -/
def LP (X : Cx) (L : LW) (pins : List (Addr × Obj)) (σ : L2.St) (Q : Addr → Addr → List V → Hp → Prop) (us : List Value) (s' : Shared) : Prop := ∃ lf lc vs H', Inv X pins σ H' s' ∧ Vals vs us ∧ LamObj L lf lc (cloFrom X.env.cells L.scope.names []) s'.heap ∧ H' lf = none ∧ lf ∉ frs X.stack ∧ Q lf lc vs H'
abbrev TL := L2.St → Hp → (Addr → Addr → List V → Hp → Prop) → Prop
structure PL (X : Cx) (L : LW) (es : List Expr) (t : TL) : Prop where
  run : ∀ (pos : Pos) (pins : List (Addr × Obj)) (s : Shared) (σ : L2.St) (H : Hp) (Q : Addr → Addr → List V → Hp → Prop), Inv X pins σ H s → t σ H Q → wpAny (model X.prog X.w) X.A (spliced (backTo pos (starEach es X.env))) (LP X L pins σ Q) X.xe s
def tlNil (P : Addr) (q : Str) : TL := fun _ H Q => TabN H P Nm.nm ∧ ∀ lf lc H1, Gr [] H H1 → H1 lc = some (CodeO lc q) → Q lf lc [.ref lf] H1
def tlCons (ta : TE) (t : TL) : TL := fun σ H Q => ta σ H fun x H1 => t σ H1 fun lf lc xs H2 => Q lf lc (x :: xs) H2
section
variable {X : Cx} {CX : CXT} {L : LW} {e : Expr} {es : List Expr} {te : TE} {t : TL} {c PT : Addr} {params : Arguments} {body : Expr} {scope : Scope} {lpos : Pos}
theorem pl_nil (TB : TabB X.base X.mg c PT) (hcode : X.env.code = .ref c) (hq : L.qual = X.env.qual ++ "<lambda>") (hnm : Nm.nm lpos.line lpos.col = L.qual) (hdef : defaultsOf L.params X.env = ([], [])) (hfree : ∀ y ∈ L.scope.names, y.2 = .free → X.env.scope.names.lookup y.1 = some .cell ∨ X.env.scope.names.lookup y.1 = some .free)
    (hs : starEach [.Lambda L.params L.body L.scope lpos] X.env = (false, eval (.Lambda L.params L.body L.scope lpos) X.env) :: starEach [] X.env := by rfl) :
    PL X L [.Lambda L.params L.body L.scope lpos] (tlNil PT L.qual) := by
  refine ⟨fun pos pins s σ H Q I h => ?_⟩
  rw [hs]
  show wpAny _ _ (spliced ((false, eval (.Lambda L.params L.body L.scope lpos) X.env) :: backTo pos (starEach [] X.env))) _ _ s
  obtain ⟨⟨tab, hP, tok, known⟩, hgo⟩ := h
  have fin : ∀ (f c' : Addr) (pm ctv : Value) (H1 : Hp) (s' : Shared), Inv X pins σ H1 s' → Gr [] H H1 → s'.heap.get? f = some (PySem.W.kla_obj "<lambda>" L.qual L.params L.body L.scope (cloFrom X.env.cells L.scope.names []) pm c' ctv) → H1 f = none → s.heap.objs.size ≤ f → H1 c' = some (CodeO c' L.qual) →
      wpAny (model X.prog X.w) X.A (spliced []) (fun us s2 => LP X L pins σ Q (.ref f :: us) s2) X.xe s' := fun f c' pm ctv H1 s' I1 g hf hn hge hco =>
    Calls.spliced_nil ⟨f, c', [.ref f], H1, I1, .cons rfl .nil, ⟨pm, ctv, hf⟩, hn, fun z => by
      rcases List.mem_cons.mp (I.stkSub _ z) with e | e
      · have h1 := I.lt
        rw [← e] at h1
        exact Nat.lt_irrefl _ (Nat.lt_of_lt_of_le h1 hge)
      · exact I.nofs hge e, hgo f c' H1 g hco⟩
  have cfr : closureFor L.scope X.env = pure (cloFrom X.env.cells L.scope.names []) := closure_ok fun y hy e => (hfree y hy e).elim (fun z => I.ok.has _ (.inl z)) fun z => I.ok.has _ (.inr z)
  refine Calls.spliced_cons (PySem.W.kla_eval hdef ?_)
  have bmP := TB.bm.keeps I.bk
  have at0 : s.heap.get? PT = some { cls := .none, data := .fields tab } := I.hok PT _ hP
  rw [← hq]
  by_cases hn : codeAmong lpos tab.toList = none
  · refine PySem.W.kla_makeFunction (mg := X.mg) (c := c) (P := PT) (ps := tab) cfr I.ok.glob (I.mod.glob.keeps I.bk) hcode (TB.code.keeps I.bk) at0 tok hn TB.gP bmP fun c' ctv h' tk grows le lt rec here => ?_
    obtain ⟨_, oc, us, t, e, g1, g2, g3⟩ := rec
    cases e
    have newC : H c' = none := I.hok.fresh le
    have le2 : s.heap.objs.size ≤ h'.objs.size := Nat.le_trans le (Nat.le_of_lt lt)
    have ne1 : h'.objs.size ≠ c' := Nat.ne_of_gt lt
    have ne2 : h'.objs.size ≠ PT := Nat.ne_of_gt (Nat.lt_of_lt_of_le (Heap.lt_size at0) le2)
    have stay : ∀ b o, b ≠ PT → H b = some o → upd (upd H PT (.tbl (tab ++ #[rawInt lpos.line, rawInt lpos.col, .ref c']))) c' (CodeO c' L.qual) b = some o := fun b o n e => by rw [upd_ne (ne_of_none e newC), upd_ne n, e]
    have J := LamX.inv_table (q := L.qual) (t' := tk) (more := #[rawInt lpos.line, rawInt lpos.col, .ref c']) (h' := h'.push (PySem.W.kla_obj "<lambda>" L.qual L.params L.body L.scope (cloFrom X.env.cells L.scope.names []) ((X.mg "__name__").getD .none) c' ctv)) I hP
      (fun b o n e => Heap.get?_push_of_some _ (grows b o n e)) (Heap.get?_push_of_some _ here) le ⟨oc, us, t, Heap.get?_push_of_some _ g1, g2, g3⟩
    refine fin _ c' _ ctv _ _ J ⟨fun b o e => ?_, fun P T => ?_⟩ (Heap.get?_push_size _ rfl) ?_ le2 upd_same
    · by_cases n : b = PT
      · subst n
        rw [hP] at e
        cases e
        exact ⟨_, by rw [upd_ne (ne_of_none hP newC), upd_same], .inr (.inr ⟨rfl, rfl⟩)⟩
      · exact ⟨o, stay b o n e, .inl rfl⟩
    · obtain ⟨p2, a1, a2, a3⟩ := T
      have kn : ∀ (c0 : Addr) (q : Str), H c0 = some (CodeO c0 q) → upd (upd H PT (.tbl (tab ++ #[rawInt lpos.line, rawInt lpos.col, .ref c']))) c' (CodeO c' L.qual) c0 = some (CodeO c0 q) := fun c0 q e => stay c0 _ (fun z => by
        rw [z, hP] at e
        cases e) e
      by_cases n : P = PT
      · subst n
        rw [hP] at a1
        cases a1
        have el : (tab ++ #[rawInt lpos.line, rawInt lpos.col, .ref c']).toList = tab.toList ++ [rawInt lpos.line, rawInt lpos.col, .ref c'] := by simp
        refine ⟨_, by rw [upd_ne (ne_of_none hP newC), upd_same], by rw [el]; exact PySem.TriplesOk_snoc _ _ _ _ a2, fun p cv hc => ?_⟩
        rw [el] at hc
        rcases among_app2 _ a2 hc with z | ⟨z, z1, z2⟩
        · obtain ⟨c0, e1, e2⟩ := a3 p cv z
          exact ⟨c0, e1, kn c0 _ e2⟩
        · exact ⟨c', z, by rw [← z1, ← z2, hnm]; exact upd_same⟩
      · refine ⟨p2, stay P _ n a1, a2, fun p cv hc => ?_⟩
        obtain ⟨c0, e1, e2⟩ := a3 p cv hc
        exact ⟨c0, e1, kn c0 _ e2⟩
    · rw [upd_ne ne1, upd_ne ne2]
      exact I.hok.fresh le2
  · obtain ⟨cv, hcv⟩ := Option.ne_none_iff_exists'.mp hn
    obtain ⟨c', e, hco⟩ := known lpos cv hcv
    subst e
    rw [hnm] at hco
    refine PySem.W.kla_makeFunctionHit (mg := X.mg) (c := c) (P := PT) (ps := tab) cfr I.ok.glob (I.mod.glob.keeps I.bk) hcode (TB.code.keeps I.bk) at0 tok hcv bmP fun ctv h' tk grows le => ?_
    exact fin _ c' _ ctv H _ (I.kept fun b o e => Heap.get?_push_of_some _ (grows b o e)) (Gr.refl H) (Heap.get?_push_size _ rfl) (I.hok.fresh le) le hco
theorem pl_cons (he : PE X e te) (hr : PL X L es t) (hs : starEach (e :: es) X.env = (false, eval e X.env) :: starEach es X.env := by rfl) : PL X L (e :: es) (tlCons te t) := by
  refine ⟨fun pos pins s σ H Q I h => ?_⟩
  rw [hs]
  show wpAny _ _ (spliced ((false, eval e X.env) :: backTo pos (starEach es X.env))) _ _ s
  refine Calls.spliced_cons (thn (he.run pins s σ H _ I h) fun u s1 ⟨x, H1, I1, r1, q1⟩ => ?_)
  exact thn (hr.run pos pins s1 σ H1 _ I1 q1) fun us s2 ⟨lf, lc, xs, H2, I2, r2, o, n, nf, q2⟩ => ⟨lf, lc, x :: xs, H2, I2, .cons r1 r2, o, n, nf, q2⟩
/-- g(.., lambda ..) -/
def tCallL (js : List Nat) (sp : Addr → Addr → List (Option V) → Sp) (E : L2.St → XK) (t : TL) : TE := fun σ H Q => t σ H fun lf lc vs H1 => sp lf lc (js.map (slotAt σ)) vs H1 Q (E σ)
theorem pe_callL {fr ps : List Str} {js : List Nat} {k : Nat} {f : Addr} {fd : FuncData} {x : Str} {sp : Addr → Addr → List (Option V) → Sp} {E : L2.St → XK} {p pos : Pos}
    (F : FnOkC X.prog X.w X.K X.mg X.base CX k f fd ps L fr sp) (hr : Room k X.A) (hg : Gl X x) (hm : X.mg x = some (.ref f)) (hk : PySem.W.keepIn X.K (.ref f) = true) (hb : Binds X.K fd ps []) (hx : ∀ σ, PassesAt CX X σ (E σ)) (cp : X.Ok → Caps X (cloFrom X.env.cells L.scope.names []) fr js)
    (ha : PL X L (e :: es) t) (hdb : (x == ("__debug__" : Str)) = false := by decide) (he : starEach (e :: es) X.env = (false, eval e X.env) :: starEach es X.env := by rfl) (hpl : (backTo pos (starEach es X.env)).any (·.1) = false := by rfl) :
    PE X (.Call (.Name x p) (e :: es) [] pos) (tCallL js sp E t) := by
  refine ⟨fun pins s σ H Q I h => ?_⟩
  refine wpAny_Call_Name_kw (ld_glob I hg hm ?_ hdb)
  refine PySem.W.callWith_K (h₀ := X.base) I.ok.mod.kin hk (thn (ha.run pos pins s σ H _ I h) fun us s1 ⟨lf, lc, vs, H1, I1, r, o, n, nf, q⟩ => ⟨I1.kIn, ?_⟩) he hpl
  have hl : us.length = ps.length := by rw [← r.length]; exact F.len _ _ _ _ _ _ _ q
  have b := hb s1 us I1.kIn (by rw [List.append_nil]; exact hl)
  rw [List.append_nil] at b
  have C := cells_of I1 (cp I1.ok)
  refine wpAny_call (codeAny_mono (F.run X.A X.stack s1 H1 ⟨us, []⟩ us vs Q (E σ) lf lc _ _ hr I1.env0 ⟨o, n, nf, C⟩ b r q) fun r s' hq => ?_)
  cases r with
  | error e => exact hx σ pins H1 s1 e s' I1 hq
  | ok fl =>
    cases fl with
    | ret u => exact I1.after hq
    | next => exact False.elim hq
    | brk => exact False.elim hq
    | cont => exact False.elim hq
end
/-! ### readings -/
section
variable {σ : L2.St} {H : Hp} {Q : VK}
theorem rd_act {i : Nat} {f c : Addr} {q : Str} {sp : Sp} {E : L2.St → XK} {t : TA} (h1 : σ[i]? = some (some (.ref f))) (h : t σ H fun vs H1 => H1 c = some (CodeO c q) ∧ sp vs H1 Q (E σ)) : tAct i f c q sp E t σ H Q := ⟨h1, h⟩
theorem rd_callL {js : List Nat} {sp : Addr → Addr → List (Option V) → Sp} {E : L2.St → XK} {t : TL} (h : t σ H fun lf lc vs H1 => sp lf lc (js.map (slotAt σ)) vs H1 Q (E σ)) : tCallL js sp E t σ H Q := h
theorem rd_lcons {ta : TE} {t : TL} {Q : Addr → Addr → List V → Hp → Prop} (h : ta σ H fun x H1 => t σ H1 fun lf lc xs H2 => Q lf lc (x :: xs) H2) : tlCons ta t σ H Q := h
theorem rd_lnil {P : Addr} {q : Str} {Q : Addr → Addr → List V → Hp → Prop} (h1 : TabN H P Nm.nm) (h : ∀ lf lc H1, Gr [] H H1 → H1 lc = some (CodeO lc q) → Q lf lc [.ref lf] H1) : tlNil P q σ H Q := ⟨h1, h⟩
end
/-- the code object of a lambda -/
def rF (c : Addr) (q : Str) : Rp Unit := fun H _ _ => H c = some (CodeO c q)
instance {c : Addr} {q : Str} : Imm (rF c q) := ⟨fun g h => g _ _ h kd_code⟩
theorem rF_of {c : Addr} {q : Str} {H : Hp} {v : V} (h : H c = some (CodeO c q)) : rF c q H () v := h
/-- the tables of the program -/
def TabsA (TT : List Addr) (H : Hp) : Prop := ∀ P ∈ TT, TabN H P Nm.nm
theorem TabsA.gr {TT A : List Addr} {H H' : Hp} (t : TabsA TT H) (g : Gr A H H') : TabsA TT H' := fun P h => g.tb P (t P h)
theorem passN {X : Cx} : ∀ σ, PassesAt CX0 X σ ((fun _ => E0) σ) := fun _ _ _ _ _ _ _ h => (show False from h).elim
/-! ### where a lambda stands in a text -/
def aReturn (s : Stmt) : Expr := match s with
  | .Return (some e) _ => e
  | _ => .Constant .none 0 ⟨0, 0, 0, 0⟩
def aArg (i : Nat) (e : Expr) : Expr := match e with
  | .Call _ as _ _ => as.getD i e
  | _ => e
def aRight (e : Expr) : Expr := match e with
  | .BinOp _ _ r _ => r
  | _ => e
def aAssign (s : Stmt) : Expr := match s with
  | .Assign _ e _ => e
  | _ => .Constant .none 0 ⟨0, 0, 0, 0⟩
def aBody (i : Nat) (s : Stmt) : Stmt := match s with
  | .For _ _ b _ _ => b.getD i s
  | .FunctionDef _ _ b _ _ _ _ _ _ _ => b.getD i s
  | _ => s
def lwOf (q : Str) (e : Expr) : LW := match e with
  | .Lambda p b sc _ => ⟨q, p, b, sc⟩
  | _ => ⟨q, { posonlyargs := [], args := [], vararg := none, kwonlyargs := [], kw_defaults := [], kwarg := none, defaults := [] }, e, { kind := .function, names := [], isGenerator := false, isCoroutine := false }⟩
theorem funT_mk {K : PySem.W.Frag} {x qual : Str} {st : Stmt} {f c PT : Addr} {oc : Value} {od an : Option Addr} {osl : Array (Option Value)} {kV doc pm ct : Value} (l : K.lookup f = some ⟨oc, od, .func (PySem.W.fnOf x qual (defArgs st) (defBody st) (defScope st) .none kV doc pm an (.ref c) ct), osl⟩)
    (h : PySem.W.codeIn K (.ref c) qual = true) : FunT K x qual st f (PySem.W.fnOf x qual (defArgs st) (defBody st) (defScope st) .none kV doc pm an (.ref c) ct) c PT := ⟨⟨oc, od, kV, doc, pm, an, ct, osl, rfl, l, h⟩⟩
def posE (e : Expr) : Nat × Nat := match e with
  | .Lambda _ _ _ p => (p.line, p.col)
  | _ => (0, 0)
end Mir
set_option Elab.async false
set_option linter.all false
set_option maxRecDepth 100000
namespace Mir
open PySem PySem.Spec PyProof.Rows L2
variable [Nm]
/-! ### enumerate over a tuple -/
section
open PySem.AutoSeq1 (wpAny_loadPart')
theorem enumTup_makes (t : Addr) (items : Array Value) (n : Nat) (dd : Option Addr) (sl : Array (Option Value)) :
    Meets (Builtin.«enumerate.__new__» ⟨[.type "enumerate", .ref t], []⟩) (fun _ R s => s.heap.get? t = some { cls := .type "tuple", dict := dd, data := .seq items n, slots := sl } ∧
      R (.ok (.ret (.ref (s.heap.push { cls := .type "tuple_iterator", data := .fields #[.ref t, .int 0 0] }).objs.size)))
        { s with heap := (s.heap.push { cls := .type "tuple_iterator", data := .fields #[.ref t, .int 0 0] }).push { cls := .type "enumerate", data := .fields #[.none, .bool false, .ref s.heap.objs.size, rawInt 0, .none, .none] } }) :=
  .of_wp fun prog w A R s h => by
    obtain ⟨hp, g, d, tk, os⟩ := s; obtain ⟨ht, h⟩ := h
    have isSub := sub_enumerate
    have isT : Heap.IsTuple (Shared.heap ⟨hp, g, d, tk, os⟩) t items := ⟨_, ht, rfl, n, rfl⟩
    wp_walk using wpAny_loadPart' ht
    refine wpAny_stack_any fun st => wpAny_pure ?_
    split
    · rename_i c _ _ _ _ _
      cases (c == Value.type "enumerate") <;> (wp_walk using wpAny_loadPart' ht, wpAny_pyIter_tuple isT; exact ⟨_, rfl, h⟩)
    · wp_walk using wpAny_loadPart' ht, wpAny_pyIter_tuple isT
      exact ⟨_, rfl, h⟩
end
theorem call_enumT {prog : Program} {w : World} {A : Around} {E : Value → Shared → Prop} {s : Shared} {t : Addr} {items : Array Value} {Q : Value → Shared → Prop} (hT : s.heap.IsTuple t items)
    (h : ∀ h', IsEnum h' (s.heap.objs.size + 1) s.heap.objs.size 0 .none → h'.IsTupleIter s.heap.objs.size t 0 → h'.objs.size = s.heap.objs.size + 2 →
      (∀ b o, s.heap.get? b = some o → h'.get? b = some o) → Q (.ref (s.heap.objs.size + 1)) { s with heap := h' }) :
    wpAny (model prog w) A (call (.type "enumerate") [.ref t]) Q E s := by
  obtain ⟨⟨c, dd, dt, sl⟩, ht, e1, n, e2⟩ := hT
  obtain rfl : c = .type "tuple" := e1
  obtain rfl : dt = .seq items n := e2
  refine callType_new F.called_enumerate (by decide) (F.typeCall_enumerate_1 _) (F.newCall_enumerate_1 _) (fun obj => F.args_object_init_2 obj _) F.entry_enumerate_new (enumTup_makes t items n dd sl) ⟨ht, ?_⟩
  have z : (s.heap.push { cls := .type "tuple_iterator", data := .fields #[.ref t, .int 0 0] }).objs.size = s.heap.objs.size + 1 := Heap.size_push ..
  show _ ∧ _
  have he := Heap.get?_push_size (s.heap.push { cls := .type "tuple_iterator", data := .fields #[.ref t, .int 0 0] }) (o := { cls := .type "enumerate", data := .fields #[.none, .bool false, .ref s.heap.objs.size, rawInt 0, .none, .none] }) rfl
  rw [z] at he ⊢
  exact ⟨⟨_, he, rfl⟩, h _ he ⟨_, Heap.get?_push_of_some _ (Heap.get?_push_size _ rfl), rfl, rfl⟩ (by rw [Heap.size_push, z]) fun b o x => Heap.get?_push_of_some _ (Heap.get?_push_of_some _ x)⟩
/-- the tuple at a, its items in new pairs with their places -/
def ItT (K : PySem.W.Frag) (a : Addr) : It :=
  ⟨fun i H => ∃ (xs : List V) (x : V), SqT K H a xs ∧ xs[i]? = some x, fun i H v H' => ∃ T x, v = .ref T ∧ H T = none ∧ H' = upd H T (.tup [.int (i : Nat), x]) ∧ ∀ xs, SqT K H a xs → xs[i]? = some x, fun i H => ∃ xs : List V, SqT K H a xs ∧ xs.length ≤ i⟩
theorem turn_enumT {P : Program} {w : World} {K : PySem.W.Frag} {elts : List Expr} {kk : Nat} {tpos : Pos} (a e it : Addr) :
    Turn P w K (.Tuple elts kk tpos) (ItT K a) [e, it] e (fun i h => (∃ old, IsEnum h e it ((i : Nat) : Int) old) ∧ h.IsTupleIter it a i ∧ e ≠ it ∧ a ≠ e ∧ a ≠ it) where
  mem := by simp
  obj := fun i h st b hb => by
    obtain ⟨⟨old, he⟩, ⟨o, ho, hc, hd⟩, _⟩ := st
    have e' : b = e ∨ b = it := by simpa using hb
    rcases e' with z | z <;> rw [z]
    · exact ⟨_, he, fun v q => nomatch q⟩
    · exact ⟨o, ho, fun v q => by rw [hd] at q; cases q⟩
  keep := fun i h h' st k => let ⟨⟨old, he⟩, ⟨o, ho, r⟩, hne⟩ := st; ⟨⟨old, k e (by simp) _ he⟩, ⟨o, k it (by simp) _ ho, r⟩, hne⟩
  item := by
    intro X hP hw hK hc i pins s σ H E I hf st hg
    subst hP hw hK
    obtain ⟨⟨old, he⟩, hit, hne, n1, n2⟩ := st
    obtain ⟨xs, x, hq, hx⟩ := hg
    obtain ⟨its, rv, p, hz⟩ := I.tuple hq
    obtain ⟨u, hu, ru⟩ := rv.get hx
    have hel : e < s.heap.objs.size := Heap.lt_size he
    have hil : it < s.heap.objs.size := by obtain ⟨_, q, _⟩ := hit; exact Heap.lt_size q
    have lt : i < its.toArray.size := by
      have q := (List.getElem?_eq_some_iff.mp hu).1
      rw [List.size_toArray]
      exact q
    refine wpAny_pyNext_enum_itemD (Draws.tuple (A := X.A.in1) (show X.A.in1.handled = none from I.ok.hd hc) it a n2 its.toArray) he ⟨hit, p⟩ lt hne (by simp [hne, Ne.symm n1]) fun y h' tk hy ho hit' hT hsz hk => ?_
    have ey : y = u := by
      have e2 : its.toArray[i]? = some u := by simpa using hu
      rw [e2] at hy
      exact (Option.some.inj hy).symm
    subst ey
    refine ⟨_, rfl, wpAny_letOwnedTupleGo_enum (s := { s with heap := h', toks := tk + 1 }) ho fun h'' he' sb => ?_⟩
    have hT2 : h''.get? s.heap.objs.size = some { cls := .type "tuple", data := .seq #[.int i tk, y] } := (sb.2 _ (Nat.ne_of_gt hel)).trans hT
    have new : ObjOk X.prog X.w (upd H s.heap.objs.size (.tup [.int (i : Nat), x])) h'' s.heap.objs.size (.tup [.int (i : Nat), x]) :=
      ⟨by show 2 ≤ sizeLine; decide, [.int i tk, y], .cons ⟨_, rfl⟩ (.cons ru .nil), ⟨_, hT2, rfl, _, rfl⟩⟩
    have I1 : Inv X pins σ (upd H s.heap.objs.size (.tup [.int (i : Nat), x])) { s with heap := h'', toks := tk + 1 } :=
      I.turnedNew (ch := [e, it]) (fun b ob hb q => (sb.2 b (fun z => hb (by simp [z]))).trans (hk b ob (fun z => hb (by simp [z])) (fun z => hb (by simp [z])) q)) hf (Nat.le_refl _) new
    refine ⟨.ref s.heap.objs.size, _, I1, rfl, ⟨_, x, rfl, I.hok.fresh (Nat.le_refl _), rfl, fun ys hy => by rw [I.tuple_inj hy hq]; exact hx⟩, ⟨⟨y, ?_⟩, ?_, hne, n1, n2⟩, fun b hb => ?_⟩
    · have e1 : ((i + 1 : Nat) : Int) = (i : Int) + 1 := by omega
      rw [e1]; exact he'
    · obtain ⟨⟨o, g1, g2⟩, _⟩ := hit'
      exact ⟨o, (sb.2 it (Ne.symm hne)).trans g1, g2⟩
    · have hb' : b < s.heap.objs.size := by
        have e' : b = e ∨ b = it := by simpa using hb
        rcases e' with z | z <;> rw [z]
        · exact hel
        · exact hil
      rw [upd_ne (Nat.ne_of_lt hb')]
      exact (hf b hb).1
  done := by
    intro X hP hw hK hc i pins s σ H E I hf st hg
    subst hP hw hK
    obtain ⟨⟨old, he⟩, hit, hne, n1, n2⟩ := st
    obtain ⟨xs, hq, hx⟩ := hg
    obtain ⟨its, rv, p, hz⟩ := I.tuple hq
    obtain ⟨f0, f1, f2, f3, f4, f5⟩ := hf it (by simp)
    have hl := rv.length
    have hh : (X.A).in1.handled = none := I.ok.hd hc
    have hn : its.toArray[i]? = none := by simp; omega
    have hT : s.TypeIs (.ref e) "enumerate" := ⟨_, he, rfl⟩
    unfold pyNext
    refine wpAny_bind (wpAny_attempt (wpAny_callSpecial?_slot (name := Str.ofString "__next__") hT F.slot_enumerate_next
      (wpAny_call_entry F.slot_enumerate_next hT F.entry_enumerate_next ?_ (F.args_enumerate_next_1 _))))
    show wpAny _ _ (field (.ref e) 2 >>= _) _ _ _
    refine wpAny_bind (wpAny_field he rfl (x := .ref it) rfl ?_)
    refine wpAny_bind (wpAny_nextOf_tuple_end hh hit p hn fun h' x he' hx' => ?_)
    obtain ⟨o, ho, hc'⟩ := hx'
    refine wpAny_bind (wpAny_isInstance (T := "StopIteration") (b := true) ⟨o, ho, hc'⟩ isSubtype_stop ?_)
    exact wpAny_pure ⟨rfl, I.turned (t' := s.toks) (fun b o hb q => he' b o hb q) f0 f1 f3 f4 f5⟩
  self := fun A i s Q E st h => let ⟨⟨_, he⟩, _⟩ := st; wpAny_pyIter_enum he h
def iEnumT (K : PySem.W.Frag) (ta : TA) : TI := fun σ H R => ta σ H fun vs H1 => ∃ a xs, vs = [.ref a] ∧ SqT K H1 a xs ∧ R (ItT K a) H1
theorem pi_enumT {X : Cx} {e1 : Expr} {ta : TA} {p pos tpos : Pos} {elts : List Expr} {kk : Nat} {K : PySem.W.Frag} (hg : Gl X "enumerate") (hm : X.mg "enumerate" = none) (ha : PA X [e1] ta) (hK : X.K = K) (hs : starEach [e1] X.env = [(false, eval e1 X.env)] := by rfl) :
    PI X (.Tuple elts kk tpos) (.Call (.Name "enumerate" p) [e1] [] pos) (iEnumT K ta) := by
  subst hK
  refine ⟨fun pins s σ H R I h => ?_⟩
  refine Call_ (ld_blt I hg hm boot_enumerate (PyProof.Rows.callWith_type1 (thn (ha.run pos pins s σ H _ I h) fun us s1 ⟨vs, H1, I1, r1, q1⟩ => ?_) hs rfl))
  obtain ⟨a, xs, ex, hq, q⟩ := q1
  subst ex
  cases r1 with
  | cons r rr =>
    cases rr
    cases r
    obtain ⟨its, rv, p', hz⟩ := I1.tuple hq
    have la : a < s1.heap.objs.size := by obtain ⟨_, z, _⟩ := id p'; exact Heap.lt_size z
    refine call_enumT p' fun h' he hit hsz hk => wpAny_pyIter_enum he ?_
    have I2 : Inv X pins σ H1 { s1 with heap := h' } := I1.kept (t' := s1.toks) hk
    refine ⟨s1.heap.objs.size + 1, [s1.heap.objs.size + 1, s1.heap.objs.size], _, _, H1, rfl, I2, turn_enumT a (s1.heap.objs.size + 1) s1.heap.objs.size, ⟨⟨.none, he⟩, hit, Nat.succ_ne_self _, Nat.ne_of_lt (Nat.lt_succ_of_lt la), Nat.ne_of_lt la⟩, fun b hb => ?_, q⟩
    have hle : s1.heap.objs.size ≤ b := by
      have e' : b = s1.heap.objs.size + 1 ∨ b = s1.heap.objs.size := by simpa using hb
      rcases e' with z | z <;> rw [z]
      · exact Nat.le_add_right _ _
      · exact Nat.le_refl _
    exact I1.fpOk hle (I1.hok.fresh hle)
theorem walk_enumT {K : PySem.W.Frag} {a : Addr} {xs : List V} : Walk (ItT K a) xs.length (fun H => SqT K H a xs) (YPair (fun i => some (.int (i : Nat))) (fun i => xs[i]?)) := by
  refine ⟨fun i _ hi q => ⟨xs, xs[i], q, by simp [hi]⟩, fun _ q => ⟨xs, q, Nat.le_refl _⟩, fun i H v H' _ q y => ?_⟩
  obtain ⟨T, x, h1, h2, h3, h4⟩ := y
  exact ⟨T, .int (i : Nat), x, h1, h2, h3, rfl, h4 xs q⟩
section
variable {α : Type} {K : PySem.W.Frag} {r : Rp α} {H H0 : Hp} {a : Addr} {xs : List α} {vs : List V}
theorem wk_enumT [Imm r] (hp : Paired (r H0) xs vs) : Wk (ItT K a) (enumF xs) (fun H => SqT K H a vs) (rP K rI r) H0 := ⟨_, by rw [enumF, List.length_zip, rng_length, Nat.min_self, Paired.length hp]; exact walk_enumT, fun A i H v H' g hi h => by
  obtain ⟨T, x, y, rfl, hn, rfl, ex, ey⟩ := h
  cases ex
  obtain ⟨z, hz, hr⟩ := Paired.get1 hp ey
  have hi' : i < (rng 0 xs.length).length := by
    rw [enumF, List.length_zip] at hi
    exact Nat.lt_of_lt_of_le hi (Nat.min_le_left _ _)
  refine ⟨((i : Nat), z), zip_get (by rw [List.getElem?_eq_getElem hi', rng_get]; congr 1; omega) hz, Gr.new hn, T, .int (i : Nat), y, rfl, SqT.of upd_same, rfl, Imm.mono (g.of0' (Gr.new hn)) hr⟩⟩
def enumAT (K : PySem.W.Frag) (R : It → Hp → Prop) (vs : List V) (H1 : Hp) : Prop := ∃ a xs, vs = [.ref a] ∧ SqT K H1 a xs ∧ R (ItT K a) H1
theorem enum_t {R : It → Hp → Prop} {u : V} {b : Addr} {xs : List V} (e : u = .ref b) (h1 : SqT K H b xs) (h : R (ItT K b) H) : enumAT K R [u] H := ⟨b, xs, by rw [e], h1, h⟩
theorem rd_ienumT {l : TA} {σ : L2.St} {R : It → Hp → Prop} (h : l σ H (enumAT K R)) : iEnumT K l σ H R := h
end
/-! ### a tuple times an int -/
theorem tuple_mul_one (l : Addr) (items : Array Value) (n : Nat) (dd : Option Addr) (sl : Array (Option Value)) (x : Int) (u : Tok) (c0 : (decide (x < -(2 ^ 63)) || decide (x ≥ 2 ^ 63)) = false) (c1 : (items.isEmpty || x == 1) = true) :
    Meets (Builtin.«tuple.__mul__» ⟨[.ref l, .int x u], []⟩) (fun _ R s => s.heap.get? l = some { cls := .type "tuple", dict := dd, data := .seq items n, slots := sl } ∧ R (.ok (.ret (.ref l))) s) :=
  .of_wp fun prog w A R s h => by
    obtain ⟨hp, g, d, tk, os⟩ := s
    obtain ⟨hl, h⟩ := h
    have f1 := AutoSeq1.idx_int
    wp_walk using AutoSeq1.wpAny_loadPart' hl
    repeat (first
      | (refine wpAny_ite_false (decide_eq_false (by rw [c0]; exact Bool.false_ne_true)) ?_; wp_walk using AutoSeq1.wpAny_loadPart' hl)
      | (refine wpAny_ite_true (decide_eq_true c1) ?_; wp_walk using AutoSeq1.wpAny_loadPart' hl))
    exact ⟨_, rfl, h⟩
theorem tuple_mul_none (l : Addr) (items : Array Value) (n : Nat) (dd : Option Addr) (sl : Array (Option Value)) (x : Int) (u : Tok) (c0 : (decide (x < -(2 ^ 63)) || decide (x ≥ 2 ^ 63)) = false) (c1 : (items.isEmpty || x == 1) = false) (c2 : (decide (x ≤ 0) || items.isEmpty) = true) :
    Meets (Builtin.«tuple.__mul__» ⟨[.ref l, .int x u], []⟩) (fun _ R s => s.heap.get? l = some { cls := .type "tuple", dict := dd, data := .seq items n, slots := sl } ∧
      R (.ok (.ret (Value.ref s.heap.objs.size))) { s with heap := s.heap.push { cls := Value.type "tuple", data := Data.seq #[] }, toks := s.toks }) :=
  .of_wp fun prog w A R s h => by
    obtain ⟨hp, g, d, tk, os⟩ := s
    obtain ⟨hl, h⟩ := h
    have f1 := AutoSeq1.idx_int
    wp_walk using AutoSeq1.wpAny_loadPart' hl
    repeat (first
      | (refine wpAny_ite_false (decide_eq_false (by rw [c0]; exact Bool.false_ne_true)) ?_; wp_walk using AutoSeq1.wpAny_loadPart' hl)
      | (refine wpAny_ite_false (decide_eq_false (by rw [c1]; exact Bool.false_ne_true)) ?_; wp_walk using AutoSeq1.wpAny_loadPart' hl)
      | (refine wpAny_ite_true (decide_eq_true c2) ?_; wp_walk using AutoSeq1.wpAny_loadPart' hl))
    exact ⟨_, rfl, h⟩
def repL {α : Type} (xs : List α) (k : Int) : List α := (List.replicate k.toNat xs).flatten
def rRepA (K : PySem.W.Frag) : R2 := fun x y H Q => ∃ l k xs, x = .ref l ∧ y = .int k ∧ SqT K H l xs ∧ xs ≠ [] ∧ -1000 ≤ k ∧ k ≤ 1000 ∧ xs.length ≤ 1000 ∧ (k = 1 → Q (.ref l) H) ∧ (k ≠ 1 → ∀ p, H p = none → Q (.ref p) (upd H p (.tup (repL xs k))))
theorem op_repA {X : Cx} {K : PySem.W.Frag} (hK : X.K = K) : OpR X (binaryOp .Mult) (rRepA K) := by
  subst hK
  intro pins s σ H x y v u Q I rx ry h
  obtain ⟨l, k, xs, rfl, rfl, hT, hne, h0, h1, hz, q1, q2⟩ := h
  by_cases k2 : 2 ≤ k
  · exact op_repT pins s σ H _ _ v u Q I rx ry ⟨l, k, xs, rfl, rfl, hT, hne, k2, h1, hz, q2 (by omega)⟩
  cases rx
  obtain ⟨t, rfl⟩ := ry
  obtain ⟨its, r, ⟨⟨cls, dd, data, sl⟩, ho, hc, n, hd⟩, hs⟩ := I.tuple hT
  obtain rfl : cls = .type "tuple" := hc
  obtain rfl : data = .seq its.toArray n := hd
  have ne : its.toArray.isEmpty = false := by
    cases its with
    | nil => cases r; exact absurd rfl hne
    | cons a b => rfl
  have c0 : (decide (k < -(2 ^ 63)) || decide (k ≥ 2 ^ 63)) = false := by
    rw [decide_eq_false (by omega), decide_eq_false (by omega)] <;> rfl
  refine wpAny_binaryOp_repeat_ref (T := "tuple") (U := "int") (by decide) ⟨_, ho, rfl⟩ (fun s' => typeIs_int s' k t) noFill_tuple_mul F.fills_int_mul F.slot_int_rmul repeat_tuple F.slot_int_index.lookup
    (call_meets F.slot_int_rmul (typeIs_int s k t) F.entry_int_rmul (F.args_int_rmul_2 _ _) (int_rmul_tuple k t l its.toArray n dd sl) ⟨ho, rfl, ⟨_, ho, rfl⟩, ?_⟩)
  by_cases e1 : k = 1
  · refine call_meets F.slot_tuple_mul ⟨_, ho, rfl⟩ F.entry_tuple_mul (F.args_tuple_mul_2 _ _) (tuple_mul_one l its.toArray n dd sl k t c0 (by rw [e1, ne]; rfl)) ⟨ho, ?_⟩
    exact ⟨.ref l, H, I, rfl, q1 e1⟩
  · refine call_meets F.slot_tuple_mul ⟨_, ho, rfl⟩ F.entry_tuple_mul (F.args_tuple_mul_2 _ _) (tuple_mul_none l its.toArray n dd sl k t c0 (by rw [ne, Bool.false_or]; exact beq_eq_false_iff_ne.mpr e1) (by rw [decide_eq_true (show k ≤ 0 by omega)]; rfl)) ⟨ho, ?_⟩
    have z : repL xs k = [] := by
      unfold repL
      rw [show k.toNat = 0 by omega]
      rfl
    have q := q2 e1
    rw [z] at q
    refine ⟨.ref s.heap.objs.size, _, I.laid (t' := s.toks) (o := .tup []) (fun b ob q => Heap.get?_push_of_some _ q) (Nat.le_refl _) ?_, rfl, q _ (I.hok.fresh (Nat.le_refl _))⟩
    exact ⟨by show 0 ≤ sizeLine; omega, [], .nil, IsTup.new _ _⟩
/-! ### readings -/
section
variable {α : Type} {K : PySem.W.Frag} {X : Cx} {r : Rp α} {H : Hp} {a b : Addr} {xs ys : List α} {v w : V} {Q : VK} {σ : L2.St} {E : Er → Prop}
theorem catAK (e : X.K = K) : OpR X (binaryOp .Add) (rCatA K) := e ▸ op_catA
theorem sl_tupAK (e : X.K = K) : SlR X (rSlA K) := e ▸ sl_tupA
theorem Paired.nil_l {q : α → V → Prop} {vs : List V} (h : Paired q xs vs) : vs = [] ↔ xs = [] := by
  cases h with
  | nil => simp
  | cons _ _ => simp
theorem cat_TA [Imm r] (hx : rT K r H xs v) (hy : rT K r H ys w) (l : lenOk (xs ++ ys)) (q : ∀ v H', Gr [] H H' → rT K r H' (xs ++ ys) v → Q v H') : rCatA K v w H Q := by
  obtain ⟨a, rfl, vs, h1, h2⟩ := hx
  obtain ⟨b, rfl, ws, h3, h4⟩ := hy
  refine ⟨a, b, vs, ws, rfl, rfl, h1, h3, ?_, fun e => ?_, fun _ e => ?_, fun _ _ p n => ?_⟩
  · have l' : (xs ++ ys).length ≤ sizeLine := l
    rw [List.length_append, Paired.length h2, Paired.length h4] at l'
    exact l'
  · have z : xs = [] := (Paired.nil_l h2).mp e
    subst z
    exact q _ _ (Gr.refl H) ⟨b, rfl, ws, h3, h4⟩
  · have z : ys = [] := (Paired.nil_l h4).mp e
    subst z
    exact q _ _ (Gr.refl H) ⟨a, rfl, vs, h1, by rw [List.append_nil]; exact h2⟩
  · exact q _ _ (Gr.new n) ⟨p, rfl, _, SqT.of upd_same, Paired.app (Paired.imm (Gr.new (A := []) n) h2) (Paired.imm (Gr.new (A := []) n) h4)⟩
theorem Paired.takeD {q : α → V → Prop} {vs : List V} (h : Paired q xs vs) : ∀ i j : Nat, Paired q ((xs.drop i).take j) ((vs.drop i).take j) := by
  induction h with
  | nil => intro i j; simp; exact .nil
  | cons h t ih =>
    rename_i x u xs us
    intro i j
    cases i with
    | succ i => exact ih i j
    | zero =>
      cases j with
      | zero => exact .nil
      | succ j => exact .cons h (by simpa using ih 0 j)
theorem cut_TA [Imm r] {lo hi : Option Int} (h : rT K r H xs v) (q : ∀ v H', Gr [] H H' → rT K r H' (cutT xs lo hi) v → Q v H') : rSlA K v lo hi H Q := by
  obtain ⟨a, rfl, vs, h1, h2⟩ := h
  refine ⟨a, vs, rfl, h1, fun e => ?_, fun _ p n => ?_⟩
  · have z : cutT xs lo hi = xs := by
      unfold cutT
      rw [Paired.length h2, e.1, e.2, List.drop_zero, Nat.sub_zero, ← Paired.length h2, List.take_length]
    exact q _ _ (Gr.refl H) ⟨a, rfl, vs, h1, by rw [z]; exact h2⟩
  · refine q _ _ (Gr.new n) ⟨p, rfl, _, SqT.of upd_same, Paired.imm (Gr.new (A := []) n) ?_⟩
    unfold cutT cutV
    rw [Paired.length h2]
    exact Paired.takeD h2 _ _
theorem tup_of_T (h : rT K r H xs v) (q : Q v H) : ap3 (fun vs H Q => ∃ p ys, vs = [V.ref p] ∧ ((SqL K H p ys ∧ ∀ l, H l = none → Q (.ref l) (upd H l (.tup ys))) ∨ (SqT K H p ys ∧ Q (.ref p) H))) [v] H Q := by
  obtain ⟨a, rfl, vs, h1, _⟩ := h
  exact ⟨a, vs, rfl, .inr ⟨h1, q⟩⟩
/-- how often a tuple, a list may be repeated -/
def repOk {α : Type} (xs : List α) (k : Int) : Prop := -1000 ≤ k ∧ k ≤ 1000 ∧ xs.length ≤ 1000 ∧ xs.length * k.toNat ≤ 1000000
instance (xs : List α) (k : Int) : Decidable (repOk xs k) := inferInstanceAs (Decidable (_ ∧ _))
theorem Paired.rep {q : α → V → Prop} {vs : List V} (h : Paired q xs vs) : ∀ n : Nat, Paired q (List.replicate n xs).flatten (List.replicate n vs).flatten
  | 0 => .nil
  | n + 1 => by
    rw [List.replicate_succ, List.replicate_succ, List.flatten_cons, List.flatten_cons]
    exact Paired.app h (Paired.rep h n)
theorem rep_T [Imm r] {k : Int} (h : rT K r H xs v) (n1 : xs.isEmpty = false) (c : repOk xs k) (q : ∀ v H', Gr [] H H' → rT K r H' (repL xs k) v → Q v H') : rRepA K v (.int k) H Q := by
  obtain ⟨a, rfl, vs, h1, h2⟩ := h
  refine ⟨a, k, vs, rfl, rfl, h1, fun e => ?_, c.1, c.2.1, by rw [← Paired.length h2]; exact c.2.2.1, fun e => ?_, fun _ p n => ?_⟩
  · rw [(Paired.nil_l h2).mp e] at n1
    cases n1
  · subst e
    have z : repL xs 1 = xs := by
      unfold repL
      simp
    exact q _ _ (Gr.refl H) ⟨a, rfl, vs, h1, by rw [z]; exact h2⟩
  · exact q _ _ (Gr.new n) ⟨p, rfl, _, SqT.of upd_same, Paired.imm (Gr.new (A := []) n) (Paired.rep h2 _)⟩
theorem rep_L [Imm r] {k : Int} (h : Ls r H a xs) (c : repOk xs k) (q : ∀ p H', H p = none → Gr [] H H' → Ls r H' p (repL xs k) → Q (.ref p) H') : rRep (.ref a) (.int k) H Q := by
  obtain ⟨vs, h1, h2⟩ := h
  refine ⟨a, k, vs, rfl, rfl, h1, by have := c.1; omega, by have := c.2.1; omega, ?_, fun p n => q _ _ n (Gr.new n) ⟨_, upd_same, Paired.imm (Gr.new (A := []) n) (Paired.rep h2 _)⟩⟩
  rw [← Paired.length h2]
  exact Nat.le_trans c.2.2.2 (by decide)
def pmax (i j : Int) : Int := if j > i then j else i
theorem rd_max {i j : Int} (q : Q (.int (pmax i j)) H) : ap3 (fun xs H Q => ∃ i j, xs = [.int i, .int j] ∧ Q (.int (if j > i then j else i)) H) [.int i, .int j] H Q := ⟨i, j, rfl, q⟩
/-! ### the truth of a list, of a tuple -/
def tTru (K : PySem.W.Frag) (ta : TE) : TT := fun σ H Q => ta σ H fun x H' => ∃ k, TruV K x H' k ∧ Q k H'
theorem pt_tru {e1 : Expr} {ta : TE} (ha : PE X e1 ta) (e : X.K = K) (he : ∀ whole, isTrue e1 X.env whole = (do let v ← whole; standAt e1.pos; holding [v] (truthy v)) := by intro _; rfl) : PT X e1 (tTru K ta) := by
  subst e
  exact pt_truth ha he
def truA (K : PySem.W.Frag) (Q : Bool → Hp → Prop) (x : V) (H' : Hp) : Prop := ∃ k, TruV K x H' k ∧ Q k H'
theorem rd_Tru {ta : TE} {Q : Bool → Hp → Prop} (h : ta σ H (truA K Q)) : tTru K ta σ H Q := h
theorem tru_T {Q : Bool → Hp → Prop} (h : rT K r H xs v) (q : Q (!xs.isEmpty) H) : truA K Q v H := by
  obtain ⟨a, rfl, vs, h1, h2⟩ := h
  refine ⟨_, .inr (.inl ⟨vs, h1, rfl⟩), ?_⟩
  have e : vs.isEmpty = xs.isEmpty := by cases h2 <;> rfl
  rw [e]
  exact q
theorem tru_L {Q : Bool → Hp → Prop} (h : Lq K r H a xs) (q : Q (!xs.isEmpty) H) : truA K Q (.ref a) H := by
  obtain ⟨vs, h1, h2⟩ := h
  refine ⟨_, .inl ⟨vs, h1, rfl⟩, ?_⟩
  have e : vs.isEmpty = xs.isEmpty := by cases h2 <;> rfl
  rw [e]
  exact q
/-! ### reversed(range(n)) -/
def revA (R : It → Hp → Prop) (x : V) (H1 : Hp) : Prop := ∃ n, x = .int n ∧ (-(2 ^ 62) ≤ (0 : Int) ∧ (0 : Int) < 2 ^ 62 ∧ -(2 ^ 62) ≤ n ∧ n < 2 ^ 62 ∧ R (Itc ((0 : Int) + (((n - 0).toNat : Nat) : Int) - 1) (-1) (n - 0).toNat) H1)
theorem rd_rev {n : Int} {R : It → Hp → Prop} (c : rgOk n) (h : R (Itc ((n.toNat : Int) - 1) (-1) n.toNat) H) : revA R (.int n) H := by
  have c1 := c.1
  have c2 := c.2
  refine ⟨n, rfl, by decide, by decide, by omega, by omega, ?_⟩
  rw [show (0 : Int) + (((n - 0).toNat : Nat) : Int) - 1 = (n.toNat : Int) - 1 by omega, show n - 0 = n by omega]
  exact h
theorem rd_irev {l : TE} {R : It → Hp → Prop} (h : l σ H (revA R)) : iRevR (tRg1 l) σ H R := h
/-! ### frozen lists -/
theorem len_Z (h : rZ r H xs v) (q : Q (.int xs.length) H) : ap3 (fun vs H Q => ∃ p ys, vs = [V.ref p] ∧ (SqL K H p ys ∨ SqT K H p ys) ∧ Q (.int ys.length) H) [v] H Q := by
  obtain ⟨a, rfl, hq⟩ := rZ_q (K := K) h
  exact len_L hq q
theorem tup_of_Z [Imm r] (h : rZ r H xs v) (q : ∀ v H', Gr [] H H' → rT K r H' xs v → Q v H') : ap3 (fun vs H Q => ∃ p ys, vs = [V.ref p] ∧ ((SqL K H p ys ∧ ∀ l, H l = none → Q (.ref l) (upd H l (.tup ys))) ∨ (SqT K H p ys ∧ Q (.ref p) H))) [v] H Q := by
  obtain ⟨a, rfl, hq⟩ := rZ_q (K := K) h
  exact tup_of_L hq q
theorem lst_of_Z [Imm r] (h : rZ r H xs v) (q : ∀ p H', H p = none → Gr [] H H' → Ls r H' p xs → Q (.ref p) H') : ap3 (fun vs H Q => ∃ p ys, vs = [V.ref p] ∧ (SqL K H p ys ∨ SqT K H p ys) ∧ ∀ l, H l = none → Q (.ref l) (upd H l (.lst ys))) [v] H Q := by
  obtain ⟨a, rfl, hq⟩ := rZ_q (K := K) h
  exact lst_of_L hq q
/-! ### a list of three taken apart -/
def un3 {α : Type} : List α → R (α × α × α)
  | [a, b, c] => .ok (a, b, c)
  | _ => .out
def un2 {α : Type} : List α → R (α × α)
  | [a, b] => .ok (a, b)
  | _ => .out
def un3A (K : PySem.W.Frag) (P : List V → Prop) (v : V) (H : Hp) : Prop := ∃ b vs, v = .ref b ∧ SqL K H b vs ∧ vs.length = 3 ∧ P vs
theorem rd_glE {t : TGs} {n : Nat} {Q : L2.St → Hp → Prop} (h : un3A K (fun vs => t vs σ H Q) v H) (e : n = 3) : gLst K n t v σ H Q := by
  subst e
  exact h
theorem un3_L {Z : α × α × α → Prop} {P : List V → Prop} (h : Lq K r H a xs) (hm : wp (un3 xs) Z E) (q : ∀ p x y z, r H p.1 x → r H p.2.1 y → r H p.2.2 z → Z p → P [x, y, z]) : un3A K P (.ref a) H := by
  obtain ⟨vs, h1, h2⟩ := h
  match xs, hm with
  | [x1, x2, x3], hm =>
    cases h2 with
    | cons g1 t1 => cases t1 with
      | cons g2 t2 => cases t2 with
        | cons g3 t3 => cases t3; exact ⟨a, _, rfl, h1, rfl, q _ _ _ _ g1 g2 g3 hm⟩
end
/-- an answer that is there -/
def unO {α : Type} : Option α → R α
  | some x => .ok x
  | none => .out
theorem unO_I {H : Hp} {o : Option Int} {v : V} {Z : Int → Prop} {E : Er → Prop} (h : rO rI H o v) (hm : wp (unO o) Z E) : ∃ x, v = .int x ∧ Z x := by
  cases o with
  | none => exact hm.elim
  | some x => exact ⟨x, h.2, hm⟩
end Mir
set_option Elab.async false
set_option linter.all false
namespace Mir
open PySem PySem.Spec PyProof.Rows L2
variable [Nm]
/-! ### the mirrors' own arithmetic -/
section
variable {α σ ρ : Type}
theorem foldR_ok {f : σ → α → R σ} (h : ∀ s x, ∃ s', f s x = .ok s') : ∀ (xs : List α) (s : σ), ∃ s', foldR f s xs = .ok s'
  | [], s => ⟨s, rfl⟩
  | x :: xs, s => by
    obtain ⟨s1, e⟩ := h s x
    obtain ⟨s2, e2⟩ := foldR_ok h xs s1
    exact ⟨s2, by show (f s x).bind _ = _; rw [e]; exact e2⟩
theorem foldR_inv {f : σ → α → R σ} (I : σ → Prop) (P : α → Prop) (h : ∀ s x, I s → P x → ∃ s', f s x = .ok s' ∧ I s') : ∀ (xs : List α) (s : σ), I s → (∀ x ∈ xs, P x) → ∃ s', foldR f s xs = .ok s' ∧ I s'
  | [], s, hs, _ => ⟨s, rfl, hs⟩
  | x :: xs, s, hs, hx => by
    obtain ⟨s1, e, i1⟩ := h s x hs (hx x List.mem_cons_self)
    obtain ⟨s2, e2, i2⟩ := foldR_inv I P h xs s1 i1 fun y hy => hx y (List.mem_cons_of_mem _ hy)
    exact ⟨s2, by show (f s x).bind _ = _; rw [e]; exact e2, i2⟩
theorem whileR_inv {c : σ → R Bool} {f : σ → R σ} (I : σ → Prop) (μ : σ → Nat) (h : ∀ s, I s → (c s = .ok true ∧ ∃ s', f s = .ok s' ∧ I s' ∧ μ s' < μ s) ∨ c s = .ok false) :
    ∀ (n : Nat) (s : σ), I s → μ s < n → ∃ s', whileR c f n s = .ok s' ∧ I s' ∧ c s' = .ok false
  | 0, s, _, hm => absurd hm (Nat.not_lt_zero _)
  | n + 1, s, hs, hm => by
    rcases h s hs with ⟨hc, s', hf, hi, hl⟩ | hc
    · obtain ⟨s2, e, i2, c2⟩ := whileR_inv I μ h n s' hi (by omega)
      refine ⟨s2, ?_, i2, c2⟩
      show (c s).bind _ = _
      rw [hc]
      show (f s).bind _ = _
      rw [hf]
      exact e
    · refine ⟨s, ?_, hs, hc⟩
      show (c s).bind _ = _
      rw [hc]
      rfl
end
theorem grd_ok {c : Prop} [Decidable c] {α : Type} {m : R α} (h : c) : grd c m = m := by
  unfold grd
  exact if_pos h
theorem rng_mem {lo x : Int} : ∀ {n : Nat}, x ∈ rng lo n → lo ≤ x ∧ x < lo + n := by
  intro n
  induction n generalizing lo with
  | zero => intro h; cases h
  | succ n ih =>
    intro h
    rcases List.mem_cons.mp h with rfl | h
    · omega
    · have := ih h
      omega
theorem mem_rng {lo x : Int} : ∀ {n : Nat}, lo ≤ x → x < lo + n → x ∈ rng lo n := by
  intro n
  induction n generalizing lo with
  | zero => intro h1 h2; omega
  | succ n ih =>
    intro h1 h2
    by_cases e : x = lo
    · exact e ▸ List.mem_cons_self
    · exact List.mem_cons_of_mem _ (ih (by omega) (by omega))
end Mir
set_option Elab.async false
set_option linter.all false
set_option maxRecDepth 100000
set_option maxHeartbeats 4000000
namespace Pf
open PySem PySem.Spec PyProof.Rows L2 Mir
open NdefX (Caps ndef_free ndef_fr)
open LamX (CodeO)
def topS (i : Nat) : Stmt := PySem.Challenge.pw_fieldmaps_k00_whole_numbers.main.body.getD i (.Pass ⟨0, 0, 0, 0⟩)

instance : Nm := ⟨fun l c => "", fun _ => false⟩

abbrev s__law_state : Stmt := topS 11
abbrev n__law_state : List Str := ["script", "seed", "total", "cell"]
theorem sc__law_state : FnScope n__law_state ["script"] (defScope s__law_state) := ⟨rfl, rfl, rfl, by decide +kernel, rfl, by decide +kernel, by decide +kernel⟩
def m__law_state_b1 (s9 : Int × Int) (x26 : Int) : R (Int × Int) :=
  R.ok (((s9.1 * (1000003 : Int)) + (pabs x26)), (((s9.2 * (48271 : Int)) + x26) % (2147483647 : Int)))
def m__law_state (a_script : (List Int)) : R (List Int) :=
  (foldR m__law_state_b1 ((0 : Int), (1 : Int)) (cutT a_script none (some (63 : Int)))).bind fun s4 => R.ok ([s4.1, s4.2])
def sp__law_state (K : PySem.W.Frag) : Sp := fun vs H Q _ => ∃ (a_script : (List Int)) (p_script : Addr), vs = [.ref p_script] ∧ Lq K rI H p_script a_script ∧ wp (m__law_state a_script) (fun r => ∀ p H', Gr [] H H' → H p = none → Ls rI H' p r → Q (.ref p) H') (fun _ => False)
theorem ok__law_state {P : Program} {w : World} {K : PySem.W.Frag} {mg : Str → Option Value} {base : Heap} {f : Addr} {fd : FuncData} (F : Fun K "_law_state" "_law_state" s__law_state f fd) (z_abs : mg "abs" = none) (z_int : mg "int" = none) : FnOk P w K mg base CX0 1 f fd ["script"] (sp__law_state K) := by
  refine F.ok sc__law_state (fun vs H Q E h => ?_) (fun cdv A outer s H0 vs Q E hr h => ?_)
  · obtain ⟨a_script, p_script, rfl, h_script, hm⟩ := h
    rfl
  · obtain ⟨a_script, p_script, rfl, h_script, hm⟩ := h
    have hm : wp (m__law_state a_script) _ _ := hm
    unfold m__law_state at hm
    refine ⟨_, (pss_cons (ps_set (i := 1) sc__law_state.nd rfl (Or.inl rfl) pe_int) (pss_cons (ps_set (i := 2) sc__law_state.nd rfl (Or.inl rfl) pe_int) (pss_cons (ps_for PassesOwn.never rfl (pi_listK (K := K) (pe_slice (sl_listK (K := K) rfl) (pv 0) po_none (po_some pe_int)) rfl) (pg_name (i := 3) sc__law_state.nd rfl (Or.inl rfl)) (pss_cons (ps_set (i := 1) sc__law_state.nd rfl (Or.inl rfl) (pe_op op_add (pe_op op_mul (pv 1) pe_int) (pe_callB call_abs (by rfl) z_abs (by decide +kernel) (pa_cons (pv 3) pa_nil)))) (pss_one (ps_set (i := 2) sc__law_state.nd rfl (Or.inl rfl) (pe_op op_mod (pe_callTy call_int1 (by rfl) z_int (by decide +kernel) (pa_cons (pe_op op_add (pe_op op_mul (pv 2) pe_int) (pv 3)) pa_nil)) pe_int))))) (pss_one (ps_ret (pe_lst (pa_cons (pv 1) (pa_cons (pv 2) pa_nil)))))))), ?_⟩
    have g0 := Gr.refl (A := []) H0
    refine rd_seq (rd_asg (rd_c (rd_gn ?_)))
    refine rd_nx ?_
    refine rd_seq (rd_asg (rd_c (rd_gn ?_)))
    refine rd_nx ?_
    refine seq_join (t := tFor _ _ _) (wp_bind hm) (fun (s : Int × Int) (σ : L2.St) (H : Hp) => ∃ (o8 : Option V), σ = [some (.ref p_script), some (.int s.1), some (.int s.2), o8] ∧ Gr [] H0 H) (fun N2 hN3 hm => ?_) (fun s4 σ H5 hr6 hm => ?_)
    · have gl7 := Gr.refl (A := []) H0
      refine rd_for (rd_il (rd_sl (rd_var rfl (rd_np (rd_part (rd_c (rd_kI (cut_L (K := K) h_script fun p13 H14 n15 g16 h17 => ?_))))))))
      have nw19 := Gr.free g0 n15
      have nw20 := Gr.free gl7 n15
      have h_script := Lq.g0 g16 h_script
      have g0 := g0.of0' g16
      have gl7 := gl7.of0' g16
      obtain ⟨vs21, hl22, hp23⟩ := id (Ls.q h17)
      have gl25 := Gr.refl (A := []) H14
      refine ⟨_, rfl, ⟨_, hl22⟩, for_lstR (r := rI) (H0 := H14) (fun (s : Int × Int) (σ : L2.St) (H : Hp) => ∃ (o24 : Option V), σ = [some (.ref p_script), some (.int s.1), some (.int s.2), o24] ∧ Gr [] H14 H) hp23 (by exact wp_N hm (fun s σ' H' hr hz => hN3 s σ' H' (by obtain ⟨w0, e, g⟩ := hr; exact ⟨w0, e, gl7.trans g⟩) hz)) ⟨_, rfl, gl25⟩ (fun _ _ _ hr => by obtain ⟨_, _, g⟩ := hr; exact g.lst nin0 hl22) (fun x26 v27 s9 σ H10 N12 hx28 hr11 hm => ?_)⟩
      unfold m__law_state_b1 at hm
      obtain ⟨o31, rfl, g30⟩ := hr11
      have h_script := Lq.gA g30 nin0 h_script
      have g0 := Gr.of0' g0 g30
      have gl25 := Gr.of0' gl25 g30
      obtain rfl := hx28
      refine rd_gn (rd_seq (rd_asg (rd_op (rd_op (rd_var rfl (rd_c (rd_rI (.inr ⟨by decide, by decide⟩) (rd_cb (rd_cons (rd_var rfl (rd_nil (rd_abs (rd_rI0 (rd_gn ?_))))))))))))))
      refine rd_nx ?_
      refine rd_asg (rd_op (rd_cb (rd_cons (rd_op (rd_op (rd_var rfl (rd_c (rd_rI (.inr ⟨by decide, by decide⟩) (rd_var rfl (rd_rI0 (rd_nil (rd_int (rd_c (rd_rI (by show (0 : Int) < 2147483647; decide) (rd_gn ?_)))))))))))))))
      exact hm _ _ ⟨_, rfl, gl25⟩
    obtain ⟨o33, rfl, g32⟩ := hr6
    have h_script := Lq.gA g32 nin0 h_script
    have g0 := Gr.of0' g0 g32
    refine rd_ret (rd_lst (rd_cons (rd_var rfl (rd_cons (rd_var rfl (rd_nil (mk_L (r := rI) (xs := [s4.1, s4.2]) (.cons rfl (.cons rfl .nil)) (by show 2 ≤ sizeLine; decide) fun p34 H35 n36 g37 h38 => ?_)))))))
    have nw39 := Gr.free g0 n36
    have g0 := g0.of0' g37
    exact hm _ _ g0 nw39 h38

abbrev s__law_take : Stmt := topS 12
abbrev n__law_take : List Str := ["state", "m", "value"]
theorem sc__law_take : FnScope n__law_take ["state", "m"] (defScope s__law_take) := ⟨rfl, rfl, rfl, by decide +kernel, rfl, by decide +kernel, by decide +kernel⟩
def m__law_take (a_state : (List Int)) (a_m : Int) : R (Int × (List Int)) :=
  (getL a_state (0 : Int)).bind fun t1 => if (decide ((0 : Int) < t1)) = true then ((getL a_state (0 : Int)).bind fun t5 => grd (0 < a_m) <| (getL a_state (0 : Int)).bind fun t9 => grd (CDiv t9 a_m) <| (setL a_state (0 : Int) (t9 / a_m)).bind fun t13 => R.ok ((t5 % a_m), t13)) else ((getL a_state (1 : Int)).bind fun t17 => (setL a_state (1 : Int) (((t17 * (48271 : Int)) + (11 : Int)) % (2147483647 : Int))).bind fun t20 => (getL t20 (1 : Int)).bind fun t24 => grd (0 < a_m) <| R.ok (((t24 / (7 : Int)) % a_m), t20))
def sp__law_take (K : PySem.W.Frag) : Sp := fun vs H Q _ => ∃ (a_state : (List Int)) (p_state : Addr) (a_m : Int), vs = [.ref p_state, (.int a_m)] ∧ Ls rI H p_state a_state ∧ wp (m__law_take a_state a_m) (fun r => ∀ H', Gr [p_state] H H' → Ls rI H' p_state r.2 → Q (.int r.1) H') (fun _ => False)
theorem ok__law_take {P : Program} {w : World} {K : PySem.W.Frag} {mg : Str → Option Value} {base : Heap} {f : Addr} {fd : FuncData} (F : Fun K "_law_take" "_law_take" s__law_take f fd) (z_int : mg "int" = none) : FnOk P w K mg base CX0 1 f fd ["state", "m"] (sp__law_take K) := by
  refine F.ok sc__law_take (fun vs H Q E h => ?_) (fun cdv A outer s H0 vs Q E hr h => ?_)
  · obtain ⟨a_state, p_state, a_m, rfl, h_state, hm⟩ := h
    rfl
  · obtain ⟨a_state, p_state, a_m, rfl, h_state, hm⟩ := h
    have hm : wp (m__law_take a_state a_m) _ _ := hm
    unfold m__law_take at hm
    refine ⟨_, (pss_cons (ps_if (pt_cmpR op_gt (pe_ix (ix_listK (K := K) rfl) (pv 0) pe_int (fun _ _ => rfl)) pe_int (nomark _)) (pss_cons (ps_set (i := 2) sc__law_take.nd rfl (Or.inl rfl) (pe_op op_mod (pe_callTy call_int1 (by rfl) z_int (by decide +kernel) (pa_cons (pe_ix (ix_listK (K := K) rfl) (pv 0) pe_int (fun _ _ => rfl)) pa_nil)) (pv 1))) (pss_cons (ps_asg (pe_op op_fdiv (pe_ix (ix_listK (K := K) rfl) (pv 0) pe_int (fun _ _ => rfl)) (pv 1)) (pg_sub (pv 0) pe_int set_list)) (pss_one (ps_ret (pv 2))))) pss_nil) (pss_cons (ps_asg (pe_op op_mod (pe_callTy call_int1 (by rfl) z_int (by decide +kernel) (pa_cons (pe_op op_add (pe_op op_mul (pe_ix (ix_listK (K := K) rfl) (pv 0) pe_int (fun _ _ => rfl)) pe_int) pe_int) pa_nil)) pe_int) (pg_sub (pv 0) pe_int set_list)) (pss_one (ps_ret (pe_op op_mod (pe_callTy call_int1 (by rfl) z_int (by decide +kernel) (pa_cons (pe_op op_fdiv (pe_ix (ix_listK (K := K) rfl) (pv 0) pe_int (fun _ _ => rfl)) pe_int) pa_nil)) (pv 1)))))), ?_⟩
    have g0 := Gr.refl (A := [p_state]) H0
    refine rd_seq (rd_if (rd_T (rd_op (rd_op (rd_var rfl (rd_c (ix_L (Ls.q h_state) (wp_bind hm) fun t1 v2 h3 hm => ?_)))))))
    obtain rfl := h3
    refine rd_c (rd_rI0 (rd_kB ?_))
    refine iteB (fun e4 => ?_) (fun e4 => ?_)
    · have hm := ifT e4 (wp_iteB hm)
      refine rd_seq (rd_asg (rd_op (rd_cb (rd_cons (rd_op (rd_var rfl (rd_c (ix_L (Ls.q h_state) (wp_bind hm) fun t5 v6 h7 hm => ?_))))))))
      obtain rfl := h7
      obtain ⟨c8, hm⟩ := wp_grd hm
      refine rd_nil (rd_int (rd_var rfl (rd_rI c8 (rd_gn ?_))))
      refine rd_nx ?_
      refine rd_seq (rd_asg (rd_op (rd_op (rd_var rfl (rd_c (ix_L (Ls.q h_state) (wp_bind hm) fun t9 v10 h11 hm => ?_))))))
      obtain rfl := h11
      obtain ⟨c12, hm⟩ := wp_grd hm
      refine rd_var rfl (rd_rI c12 (rd_gs (rd_var rfl (rd_c (rd_set h_state rfl (wp_bind hm) fun t13 H14 g15 h16 hm => ?_)))))
      have g0 := Gr.at1 g0 (by simp) g15
      refine rd_nx ?_
      exact rd_ret (rd_var rfl (hm _ g0 h16))
    have hm := ifF e4 (wp_iteB hm)
    refine rd_next (rd_nx ?_)
    refine rd_seq (rd_asg (rd_op (rd_cb (rd_cons (rd_op (rd_op (rd_op (rd_var rfl (rd_c (ix_L (Ls.q h_state) (wp_bind hm) fun t17 v18 h19 hm => ?_))))))))))
    obtain rfl := h19
    refine rd_c (rd_rI (.inr ⟨by decide, by decide⟩) (rd_c (rd_rI0 (rd_nil (rd_int (rd_c (rd_rI (by show (0 : Int) < 2147483647; decide) (rd_gs (rd_var rfl (rd_c (rd_set h_state rfl (wp_bind hm) fun t20 H21 g22 h23 hm => ?_)))))))))))
    have g0 := Gr.at1 g0 (by simp) g22
    refine rd_nx ?_
    refine rd_ret (rd_op (rd_cb (rd_cons (rd_op (rd_op (rd_var rfl (rd_c (ix_L (Ls.q h23) (wp_bind hm) fun t24 v25 h26 hm => ?_))))))))
    obtain rfl := h26
    obtain ⟨c27, hm⟩ := wp_grd hm
    exact rd_c (rd_rI ⟨by decide, by decide⟩ (rd_nil (rd_int (rd_var rfl (rd_rI c27 (hm _ g0 h23))))))

abbrev s__law_primes : Stmt := topS 15
abbrev n__law_primes : List Str := ["n", "found", "p", "q"]
theorem sc__law_primes : FnScope n__law_primes ["n"] (defScope s__law_primes) := ⟨rfl, rfl, rfl, by decide +kernel, rfl, by decide +kernel, by decide +kernel⟩
def m__law_primes_b1 (x21 : Int) (s45 : List Int) (x46 : Int) : R (List Int) :=
  grd (0 < x46) <| if (decide ((x21 % x46) = (0 : Int))) = true then (grd (lenLt s45) <| R.ok (s45 ++ [x46])) else R.ok s45
def m__law_primes_b2 (a_n : Int) (s15 : (List Int)) (x21 : Int) : R ((List Int)) :=
  (andR (grd (0 < x21) <| R.ok (decide ((a_n % x21) = (0 : Int)))) ((foldR (m__law_primes_b1 x21) ([]) s15).bind fun s52 => R.ok (decide (((s52).length : Int) = (0 : Int))))).bind fun t66 => if t66 = true then (grd (lenLt s15) <| R.ok (s15 ++ [x21])) else (R.ok s15)
def m__law_primes (a_n : Int) : R (List Int) :=
  (grd (rg2Ok (2 : Int) (a_n + (1 : Int))) <| foldR (m__law_primes_b2 a_n) ([] : List Int) (rng (2 : Int) ((a_n + (1 : Int)) - (2 : Int)).toNat)).bind fun s10 => R.ok s10
def sp__law_primes (K : PySem.W.Frag) : Sp := fun vs H Q _ => ∃ (a_n : Int), vs = [(.int a_n)] ∧ wp (m__law_primes a_n) (fun r => ∀ p H', Gr [] H H' → H p = none → Ls rI H' p r → Q (.ref p) H') (fun _ => False)
theorem ok__law_primes {P : Program} {w : World} {K : PySem.W.Frag} {mg : Str → Option Value} {base : Heap} {f : Addr} {fd : FuncData} (F : Fun K "_law_primes" "_law_primes" s__law_primes f fd) (z_range : mg "range" = none) (z_len : mg "len" = none) : FnOk P w K mg base CX0 1 f fd ["n"] (sp__law_primes K) := by
  refine F.ok sc__law_primes (fun vs H Q E h => ?_) (fun cdv A outer s H0 vs Q E hr h => ?_)
  · obtain ⟨a_n, rfl, hm⟩ := h
    rfl
  · obtain ⟨a_n, rfl, hm⟩ := h
    have hm : wp (m__law_primes a_n) _ _ := hm
    unfold m__law_primes at hm
    refine ⟨_, (pss_cons (ps_set (i := 1) sc__law_primes.nd rfl (Or.inl rfl) (pe_lst pa_nil)) (pss_cons (ps_for PassesOwn.never rfl (pi_range2 (by rfl) z_range (pa_cons pe_int (pa_cons (pe_op op_add (pv 0) pe_int) pa_nil))) (pg_name (i := 2) sc__law_primes.nd rfl (Or.inr rfl)) (pss_one (ps_if (PW.pt (pw_and (pt_cmpR op_eqI (pe_op op_mod (pv 0) (pv 2)) pe_int (nomark _)) (pw_and1 (pt_cmpR op_eqI (pe_callB (lenK (K := K) rfl) (by rfl) z_len PySem.boot_len (pa_cons (pe_lc (own := [("q", 3)]) (g := gName 3) rfl sc__law_primes.nd (pi_listK (K := K) (pv 1) rfl) (blkOk_by (own := [("q", 3)]) (N := n__law_primes) (sc := defScope s__law_primes) (by decide +kernel)) (fun _ _ _ _ _ => pg_name (i := 3) sc__law_primes.nd rfl (Or.inl rfl)) (fun _ _ _ _ _ => pts_one (pt_cmpR op_eqI (pe_op op_mod (pv 2) (pv 3)) pe_int (nomark _))) (fun _ _ _ _ _ => (pv 3))) pa_nil)) pe_int (nomark _))))) (pss_one (ps_expr (pe_bm PySem.F.plainAttrs_list PySem.F.slot_list_append PySem.F.type_list_append mt_append (pv 1) (pa_cons (pv 2) pa_nil)))) pss_nil))) (pss_one (ps_ret (pv 1))))), ?_⟩
    have g0 := Gr.refl (A := []) H0
    refine rd_seq (rd_asg (rd_lst (rd_nil (mk_L (r := rI) (xs := ([] : List Int)) .nil (by show 0 ≤ sizeLine; decide) fun p1 H2 n3 g4 h5 => ?_))))
    have nw6 := Gr.free g0 n3
    have g0 := g0.of0' g4
    refine rd_gn ?_
    refine rd_nx ?_
    refine seq_join (t := tFor _ _ _) (wp_bind hm) (fun (s : (List Int)) (σ : L2.St) (H : Hp) => ∃ (o14 : Option V), σ = [some (.int a_n), some (.ref p1), o14, none] ∧ Gr [p1] H2 H ∧ Ls rI H p1 s) (fun N8 hN9 hm => ?_) (fun s10 σ H11 hr12 hm => ?_)
    · have gl13 := Gr.refl (A := [p1]) H2
      obtain ⟨c19, hm⟩ := wp_grd hm
      have gl20 := Gr.refl (A := [p1]) H2
      refine rd_for (rd_r2 (rd_cons (rd_c (rd_cons (rd_op (rd_var rfl (rd_c (rd_rI0 (rd_nil ⟨_, _, rfl, c19, for_rngR (lo := (2 : Int)) (n := ((a_n + (1 : Int)) - (2 : Int)).toNat) (fun (s : (List Int)) (σ : L2.St) (H : Hp) => ∃ (o14 : Option V), σ = [some (.int a_n), some (.ref p1), o14, none] ∧ Gr [p1] H2 H ∧ Ls rI H p1 s) (by exact wp_N hm (fun s σ' H' hr hz => hN9 s σ' H' hr hz)) ⟨_, rfl, gl20, h5⟩ (fun x21 s15 σ H16 N18 hr17 hm => ?_)⟩)))))))))
      unfold m__law_primes_b2 at hm
      obtain ⟨o27, rfl, g25, h26⟩ := hr17
      have g0 := Gr.many g0 (all1 ((.inr nw6)) all0) g25
      have gl20 := Gr.many gl20 (all1 ((.inl (by simp))) all0) g25
      refine rd_gn (rd_if ((ev_and (fun Q hm => by
          have gb28 := Gr.refl (A := []) H16
          obtain ⟨c29, hm⟩ := wp_grd hm
          exact rd_T (rd_op (rd_op (rd_var rfl (rd_var rfl (rd_rI c29 (rd_c (rd_rI0 (rd_kB (hm _ gb28)))))))))) (fun H30 g31 Q hm => by
          have h26 := Ls.g0 g31 h26
          have g0 := g0.of0' g31
          have gl20 := gl20.of0' g31
          have gb32 := Gr.refl (A := []) H30
          obtain ⟨vs33, hl34, hp35⟩ := id (Ls.q h26)
          refine rd_T (rd_op (rd_cb (rd_cons (rd_lc (rd_il (rd_var rfl ⟨_, rfl, ⟨_, hl34⟩, fun p36 n37 => ?_⟩))))))
          have ne38 : p1 ≠ p36 := Ls.ne h26 n37
          have nw39 := Gr.free g0 n37
          have nw40 := Gr.free gl20 n37
          have nw41 := Gr.free gb32 n37
          refine lc_lst (r := rI) (H1 := H30) (fun (s : List Int) (H : Hp) => Gr [] H30 H ∧ Ls rI H p36 s) hp35 (wp_bind hm) ⟨Gr.new n37, ⟨[], upd_same, .nil⟩⟩ (fun _ _ hr => by obtain ⟨g, _⟩ := hr; exact g.lst nin0 hl34) (fun x46 v47 s45 H49 N50 hx48 hr51 hm => ?_) (fun s52 H53 hr54 hm => ?_)
          · unfold m__law_primes_b1 at hm
            obtain ⟨g55, h56⟩ := hr51
            have h26 := Ls.gA g55 nin0 h26
            have g0 := Gr.of0' g0 g55
            have gl20 := Gr.of0' gl20 g55
            have gb32 := Gr.of0' gb32 g55
            have gl57 := g55
            obtain rfl := hx48
            refine rd_gn ⟨rfl, ?_⟩
            obtain ⟨c58, hm⟩ := wp_grd hm
            refine rd_T (rd_op (rd_op (rd_var rfl (rd_var rfl (rd_rI c58 (rd_c (rd_rI0 (rd_kB ?_))))))))
            refine iteB' (fun e59 => ?_) (fun e59 => ?_)
            · exact ifF e59 (wp_iteB hm) _ ⟨gl57, h56⟩
            have hm := ifT e59 (wp_iteB hm)
            obtain ⟨c60, hm⟩ := wp_grd hm
            refine rd_var rfl (lc_add h56 rfl c60 fun H61 g62 h63 => ?_)
            have h26 := Ls.g1 g62 ne38 h26
            have g0 := Gr.loc g0 nw39 g62
            have gl20 := Gr.loc gl20 nw40 g62
            have gb32 := Gr.loc gb32 nw41 g62
            have gl57 := Gr.loc gl57 n37 g62
            exact hm _ ⟨gl57, h63⟩
          obtain ⟨g64, h65⟩ := hr54
          have h26 := Ls.gA g64 nin0 h26
          have g0 := Gr.of0' g0 g64
          have gl20 := Gr.of0' gl20 g64
          have gb32 := Gr.of0' gb32 g64
          exact rd_nil (len_L (Ls.q h65) (rd_c (rd_rI0 (rd_kB (hm _ gb32))))))) _ (wp_imp (wp_bind hm) (fun t66 hm H67 g68 => ?_) (fun _ e => e))))
      have h26 := Ls.g0 g68 h26
      have g0 := g0.of0' g68
      have gl20 := gl20.of0' g68
      refine iteB (fun e69 => ?_) (fun e69 => ?_)
      · have hm := ifT e69 (wp_iteB hm)
        obtain ⟨c70, hm⟩ := wp_grd hm
        refine rd_drop (rd_bm (rd_var rfl ⟨(Ls.ty h26), rd_cons (rd_var rfl (rd_nil (rd_append h26 rfl c70 fun H71 g72 h73 => ?_)))⟩))
        have g0 := Gr.loc g0 nw6 g72
        have gl20 := Gr.at1 gl20 (by simp) g72
        exact hm _ _ ⟨_, rfl, gl20, h73⟩
      have hm := ifF e69 (wp_iteB hm)
      exact rd_next (hm _ _ ⟨_, rfl, gl20, h26⟩)
    obtain ⟨o76, rfl, g74, h75⟩ := hr12
    have g0 := Gr.many g0 (all1 ((.inr nw6)) all0) g74
    exact rd_ret (rd_var rfl (hm _ _ g0 nw6 h75))

abbrev s_least_divisor : Stmt := topS 4
abbrev n_least_divisor : List Str := ["n", "start", "candidate"]
theorem sc_least_divisor : FnScope n_least_divisor ["n", "start"] (defScope s_least_divisor) := ⟨rfl, rfl, rfl, by decide +kernel, rfl, by decide +kernel, by decide +kernel⟩
def m_least_divisor_b1 (a_n : Int) (s8 : Int) : R Bool :=
  grd (CMul s8 s8) <| R.ok (decide ((s8 * s8) ≤ a_n))
def m_least_divisor_b2 (a_n : Int) (s8 : Int) : R (Lp (Int) (Int)) :=
  grd (0 < s8) <| if (decide ((a_n % s8) = (0 : Int))) = true then (R.ok (Lp.rt s8)) else (((R.ok (decide (s8 = (2 : Int)))).bind fun b => if b = true then R.ok (3 : Int) else R.ok (s8 + (2 : Int))).bind fun t29 => R.ok (Lp.nx t29))
def m_least_divisor (a_n : Int) (a_start : Int) : R Int :=
  (whileL (m_least_divisor_b1 a_n) (m_least_divisor_b2 a_n) 100000 a_start).bind fun o => Le.thn o (fun s4 => R.ok a_n) (fun r => R.ok r)
def sp_least_divisor (K : PySem.W.Frag) : Sp := fun vs H Q _ => ∃ (a_n : Int) (a_start : Int), vs = [(.int a_n), (.int a_start)] ∧ wp (m_least_divisor a_n a_start) (fun r => ∀ H', Gr [] H H' → Q (.int r) H') (fun _ => False)
theorem ok_least_divisor {P : Program} {w : World} {K : PySem.W.Frag} {mg : Str → Option Value} {base : Heap} {f : Addr} {fd : FuncData} (F : Fun K "least_divisor" "least_divisor" s_least_divisor f fd) : FnOk P w K mg base CX0 1 f fd ["n", "start"] (sp_least_divisor K) := by
  refine F.ok sc_least_divisor (fun vs H Q E h => ?_) (fun cdv A outer s H0 vs Q E hr h => ?_)
  · obtain ⟨a_n, a_start, rfl, hm⟩ := h
    rfl
  · obtain ⟨a_n, a_start, rfl, hm⟩ := h
    have hm : wp (m_least_divisor a_n a_start) _ _ := hm
    unfold m_least_divisor at hm
    refine ⟨_, (pss_cons (ps_set (i := 2) sc_least_divisor.nd rfl (Or.inl rfl) (pv 1)) (pss_cons (ps_while PassesOwn.never (pt_cmpR op_le (pe_op op_mul (pv 2) (pv 2)) (pv 0) (nomark _)) (pss_cons (ps_if (pt_cmpR op_eqI (pe_op op_mod (pv 0) (pv 2)) pe_int (nomark _)) (pss_one (ps_ret (pv 2))) pss_nil) (pss_one (ps_set (i := 2) sc_least_divisor.nd rfl (Or.inl rfl) (pe_ifExp (pt_cmpR op_eqI (pv 2) pe_int (nomark _)) pe_int (pe_op op_add (pv 2) pe_int)))))) (pss_one (ps_ret (pv 0))))), ?_⟩
    have g0 := Gr.refl (A := []) H0
    refine rd_seq (rd_asg (rd_var rfl (rd_gn ?_)))
    refine rd_nx ?_
    refine seq_joinL (t := tWhile _ _) (wp_le hm) (fun (s : Int) (σ : L2.St) (H : Hp) => σ = [some (.int a_n), some (.int a_start), some (.int s)] ∧ Gr [] H0 H) (fun N2 hm => ?_) (fun s4 σ H5 hr6 hm => ?_)
    · have gl7 := Gr.refl (A := []) H0
      refine whl_L (fun (s : Int) (σ : L2.St) (H : Hp) => σ = [some (.int a_n), some (.int a_start), some (.int s)] ∧ Gr [] H0 H) (by exact wp_imp hm (fun o ho => leP_imp ho (fun s hz σ' H' hr => hz σ' H' hr) (fun _ h => h)) (fun _ e => e)) ⟨rfl, gl7⟩ (fun s8 σ H9 N11 W12 m13 hW14 hr10 hm => ?_)
      unfold m_least_divisor_b1 at hm
      obtain ⟨rfl, g17⟩ := hr10
      have g0 := Gr.of0' g0 g17
      have gl7 := Gr.of0' gl7 g17
      obtain ⟨c18, hm⟩ := wp_grd hm
      refine rd_T (rd_op (rd_op (rd_var rfl (rd_var rfl (rd_rI (c18) (rd_var rfl (rd_rI0 (rd_kB ?_))))))))
      refine iteB' (fun e19 => ?_) (fun e19 => ?_)
      · exact ifF e19 hm _ _ ⟨rfl, gl7⟩
      have hm := ifT e19 hm
      unfold m_least_divisor_b2 at hm
      refine ⟨N11, hW14, ?_⟩
      obtain ⟨c20, hm⟩ := wp_grd hm
      refine rd_seq (rd_if (rd_T (rd_op (rd_op (rd_var rfl (rd_var rfl (rd_rI c20 (rd_c (rd_rI0 (rd_kB ?_))))))))))
      refine iteB (fun e21 => ?_) (fun e21 => ?_)
      · have hm := ifT e21 (wp_iteB hm)
        exact rd_ret (rd_var rfl (hm _ g0))
      have hm := ifF e21 (wp_iteB hm)
      refine rd_next (rd_nx ?_)
      refine rd_asg ((ev_if (r := rI) (fun Q hm => by
          have gb22 := Gr.refl (A := []) H9
          exact rd_T (rd_op (rd_var rfl (rd_c (rd_rI0 (rd_kB (hm _ gb22))))))) (fun H23 g24 Q hm => by
          have g0 := g0.of0' g24
          have gl7 := gl7.of0' g24
          have gb25 := Gr.refl (A := []) H23
          exact rd_c (hm _ _ gb25 rfl)) (fun H26 g27 Q hm => by
          have g0 := g0.of0' g27
          have gl7 := gl7.of0' g27
          have gb28 := Gr.refl (A := []) H26
          exact rd_op (rd_var rfl (rd_c (rd_rI0 (hm _ _ gb28 rfl)))))) _ (wp_imp (wp_bind hm) (fun t29 hm v30 H31 g32 h33 => ?_) (fun _ e => e)))
      have g0 := g0.of0' g32
      have gl7 := gl7.of0' g32
      obtain rfl := h33
      refine rd_gn ?_
      exact hm _ _ ⟨rfl, gl7⟩
    obtain ⟨rfl, g34⟩ := hr6
    have g0 := Gr.of0' g0 g34
    exact rd_ret (rd_var rfl (hm _ g0))

abbrev s_prime_powers : Stmt := topS 5
abbrev n_prime_powers : List Str := ["n", "pairs", "rest", "p", "k"]
theorem sc_prime_powers : FnScope n_prime_powers ["n"] (defScope s_prime_powers) := ⟨rfl, rfl, rfl, by decide +kernel, rfl, by decide +kernel, by decide +kernel⟩
def m_prime_powers_b1 (s15 : (List (Int × Int)) × Int × Int) : R Bool :=
  R.ok (decide ((1 : Int) < s15.2.1))
def m_prime_powers_b2 (t28 : Int) (s38 : Int × Int) : R Bool :=
  grd (0 < t28) <| R.ok (decide ((s38.1 % t28) = (0 : Int)))
def m_prime_powers_b3 (t28 : Int) (s38 : Int × Int) : R (Int × Int) :=
  grd (CDiv s38.1 t28) <| R.ok ((s38.1 / t28), (s38.2 + (1 : Int)))
def m_prime_powers_b4 (s15 : (List (Int × Int)) × Int × Int) : R ((List (Int × Int)) × Int × Int) :=
  (m_least_divisor s15.2.1 s15.2.2).bind fun t28 => (whileR (m_prime_powers_b2 t28) (m_prime_powers_b3 t28) 100000 (s15.2.1, (0 : Int))).bind fun s34 => grd (lenLt s15.1) <| R.ok ((s15.1 ++ [(t28, s34.2)]), s34.1, t28)
def m_prime_powers (a_n : Int) : R (List (Int × Int)) :=
  (whileR m_prime_powers_b1 m_prime_powers_b4 100000 (([] : List (Int × Int)), a_n, (2 : Int))).bind fun s10 => R.ok s10.1
def sp_prime_powers (K : PySem.W.Frag) : Sp := fun vs H Q _ => ∃ (a_n : Int), vs = [(.int a_n)] ∧ wp (m_prime_powers a_n) (fun r => ∀ v H', Gr [] H H' → (rT K (rP K rI rI)) H' r v → Q v H') (fun _ => False)
theorem ok_prime_powers {P : Program} {w : World} {K : PySem.W.Frag} {mg : Str → Option Value} {base : Heap} {f : Addr} {fd : FuncData} (F : Fun K "prime_powers" "prime_powers" s_prime_powers f fd) (z_tuple : mg "tuple" = none) (c_least_divisor : Cal P w K mg base CX0 1 "least_divisor" ["n", "start"] (sp_least_divisor K)) : FnOk P w K mg base CX0 2 f fd ["n"] (sp_prime_powers K) := by
  obtain ⟨f_least_divisor, fd_least_divisor, G_least_divisor, g_least_divisor, k_least_divisor, b_least_divisor⟩ := c_least_divisor
  refine F.ok sc_prime_powers (fun vs H Q E h => ?_) (fun cdv A outer s H0 vs Q E hr h => ?_)
  · obtain ⟨a_n, rfl, hm⟩ := h
    rfl
  · obtain ⟨a_n, rfl, hm⟩ := h
    have hm : wp (m_prime_powers a_n) _ _ := hm
    unfold m_prime_powers at hm
    refine ⟨_, (pss_cons (ps_set (i := 1) sc_prime_powers.nd rfl (Or.inl rfl) (pe_lst pa_nil)) (pss_cons (ps_set (i := 2) sc_prime_powers.nd rfl (Or.inl rfl) (pv 0)) (pss_cons (ps_set (i := 3) sc_prime_powers.nd rfl (Or.inl rfl) pe_int) (pss_cons (ps_while PassesOwn.never (pt_cmpR op_gt (pv 2) pe_int (nomark _)) (pss_cons (ps_set (i := 3) sc_prime_powers.nd rfl (Or.inl rfl) (pe_call G_least_divisor (hr.mono (by decide)) (by rfl) g_least_divisor k_least_divisor b_least_divisor .nil pass0 (pa_cons (pv 2) (pa_cons (pv 3) pa_nil)))) (pss_cons (ps_set (i := 4) sc_prime_powers.nd rfl (Or.inl rfl) pe_int) (pss_cons (ps_while PassesOwn.never (pt_cmpR op_eqI (pe_op op_mod (pv 2) (pv 3)) pe_int (nomark _)) (pss_cons (ps_set (i := 2) sc_prime_powers.nd rfl (Or.inl rfl) (pe_op op_fdiv (pv 2) (pv 3))) (pss_one (ps_aug (i := 4) sc_prime_powers.nd rfl (Or.inl rfl) pe_int ip_add)))) (pss_one (ps_expr (pe_bm PySem.F.plainAttrs_list PySem.F.slot_list_append PySem.F.type_list_append mt_append (pv 1) (pa_cons (pe_tup (pa_cons (pv 3) (pa_cons (pv 4) pa_nil))) pa_nil)))))))) (pss_one (ps_ret (pe_callTy (tupleK (K := K) rfl) (by rfl) z_tuple (by decide +kernel) (pa_cons (pv 1) pa_nil)))))))), ?_⟩
    have g0 := Gr.refl (A := []) H0
    refine rd_seq (rd_asg (rd_lst (rd_nil (mk_L (r := (rP K rI rI)) (xs := ([] : List (Int × Int))) .nil (by show 0 ≤ sizeLine; decide) fun p1 H2 n3 g4 h5 => ?_))))
    have nw6 := Gr.free g0 n3
    have g0 := g0.of0' g4
    refine rd_gn ?_
    refine rd_nx ?_
    refine rd_seq (rd_asg (rd_var rfl (rd_gn ?_)))
    refine rd_nx ?_
    refine rd_seq (rd_asg (rd_c (rd_gn ?_)))
    refine rd_nx ?_
    refine seq_join (t := tWhile _ _) (wp_bind hm) (fun (s : (List (Int × Int)) × Int × Int) (σ : L2.St) (H : Hp) => ∃ (o14 : Option V), σ = [some (.int a_n), some (.ref p1), some (.int s.2.1), some (.int s.2.2), o14] ∧ Gr [p1] H2 H ∧ Ls (rP K rI rI) H p1 s.1) (fun N8 hN9 hm => ?_) (fun s10 σ H11 hr12 hm => ?_)
    · have gl13 := Gr.refl (A := [p1]) H2
      refine whl_R (fun (s : (List (Int × Int)) × Int × Int) (σ : L2.St) (H : Hp) => ∃ (o14 : Option V), σ = [some (.int a_n), some (.ref p1), some (.int s.2.1), some (.int s.2.2), o14] ∧ Gr [p1] H2 H ∧ Ls (rP K rI rI) H p1 s.1) (by exact wp_N hm (fun s σ' H' hr hz => hN9 s σ' H' hr hz)) ⟨_, rfl, gl13, h5⟩ (fun s15 σ H16 N18 W19 m20 hW21 hr17 hm => ?_)
      unfold m_prime_powers_b1 at hm
      obtain ⟨o26, rfl, g24, h25⟩ := hr17
      have g0 := Gr.many g0 (all1 ((.inr nw6)) all0) g24
      have gl13 := Gr.many gl13 (all1 ((.inl (by simp))) all0) g24
      refine rd_T (rd_op (rd_var rfl (rd_c (rd_rI0 (rd_kB ?_)))))
      refine iteB' (fun e27 => ?_) (fun e27 => ?_)
      · exact ifF e27 hm _ _ ⟨_, rfl, gl13, h25⟩
      have hm := ifT e27 hm
      unfold m_prime_powers_b4 at hm
      refine ⟨N18, hW21, ?_⟩
      refine rd_seq (rd_asg (rd_call (rd_cons (rd_var rfl (rd_cons (rd_var rfl (rd_nil ⟨_, _, rfl, wp_imp (wp_bind hm) (fun t28 hm H29 g30 => ?_) (fun _ e => e)⟩)))))))
      have h25 := Ls.g0 g30 h25
      have g0 := g0.of0' g30
      have gl13 := gl13.of0' g30
      refine rd_gn ?_
      refine rd_nx ?_
      refine rd_seq (rd_asg (rd_c (rd_gn ?_)))
      refine rd_nx ?_
      refine seq_join (t := tWhile _ _) (wp_bind hm) (fun (s : Int × Int) (σ : L2.St) (H : Hp) => σ = [some (.int a_n), some (.ref p1), some (.int s.1), some (.int t28), some (.int s.2)] ∧ Gr [] H29 H) (fun N32 hN33 hm => ?_) (fun s34 σ H35 hr36 hm => ?_)
      · have gl37 := Gr.refl (A := []) H29
        refine whl_R (fun (s : Int × Int) (σ : L2.St) (H : Hp) => σ = [some (.int a_n), some (.ref p1), some (.int s.1), some (.int t28), some (.int s.2)] ∧ Gr [] H29 H) (by exact wp_N hm (fun s σ' H' hr hz => hN33 s σ' H' hr hz)) ⟨rfl, gl37⟩ (fun s38 σ H39 N41 W42 m43 hW44 hr40 hm => ?_)
        unfold m_prime_powers_b2 at hm
        obtain ⟨rfl, g47⟩ := hr40
        have h25 := Ls.gA g47 nin0 h25
        have g0 := Gr.of0' g0 g47
        have gl13 := Gr.of0' gl13 g47
        have gl37 := Gr.of0' gl37 g47
        obtain ⟨c48, hm⟩ := wp_grd hm
        refine rd_T (rd_op (rd_op (rd_var rfl (rd_var rfl (rd_rI c48 (rd_c (rd_rI0 (rd_kB ?_))))))))
        refine iteB' (fun e49 => ?_) (fun e49 => ?_)
        · exact ifF e49 hm _ _ ⟨rfl, gl37⟩
        have hm := ifT e49 hm
        unfold m_prime_powers_b3 at hm
        refine ⟨N41, hW44, ?_⟩
        obtain ⟨c50, hm⟩ := wp_grd hm
        refine rd_seq (rd_asg (rd_op (rd_var rfl (rd_var rfl (rd_rI c50 (rd_gn ?_))))))
        refine rd_nx ?_
        refine rd_aug rfl (rd_c (rd_ipI ?_))
        exact hm _ _ ⟨rfl, gl37⟩
      obtain ⟨rfl, g51⟩ := hr36
      have h25 := Ls.gA g51 nin0 h25
      have g0 := Gr.of0' g0 g51
      have gl13 := Gr.of0' gl13 g51
      refine rd_drop (rd_bm (rd_var rfl ⟨(Ls.ty h25), rd_cons (rd_tup (rd_cons (rd_var rfl (rd_cons (rd_var rfl (rd_nil (mk_P (K := K) (r := rI) (s := rI) rfl rfl fun v52 H53 g54 h55 => ?_)))))))⟩))
      have h25 := Ls.g0 g54 h25
      have g0 := g0.of0' g54
      have gl13 := gl13.of0' g54
      obtain ⟨c56, hm⟩ := wp_grd hm
      refine rd_nil (rd_append h25 h55 c56 fun H57 g58 h59 => ?_)
      have g0 := Gr.loc g0 nw6 g58
      have gl13 := Gr.at1 gl13 (by simp) g58
      exact hm _ _ ⟨_, rfl, gl13, h59⟩
    obtain ⟨o62, rfl, g60, h61⟩ := hr12
    have g0 := Gr.many g0 (all1 ((.inr nw6)) all0) g60
    refine rd_ret (rd_cb (rd_cons (rd_var rfl (rd_nil (tup_of_L (K := K) (Ls.q h61) fun v63 H64 g65 h66 => ?_)))))
    have h61 := Ls.g0 g65 h61
    have g0 := g0.of0' g65
    exact hm _ _ g0 h66

abbrev s__law_power_of : Stmt := topS 14
abbrev n__law_power_of : List Str := ["p", "k", "total", "turn"]
theorem sc__law_power_of : FnScope n__law_power_of ["p", "k"] (defScope s__law_power_of) := ⟨rfl, rfl, rfl, by decide +kernel, rfl, by decide +kernel, by decide +kernel⟩
def m__law_power_of_b1 (a_p : Int) (s9 : Int) (x15 : Int) : R (Int) :=
  grd (CMul s9 a_p) <| R.ok (s9 * a_p)
def m__law_power_of (a_p : Int) (a_k : Int) : R Int :=
  (grd (rgOk a_k) <| foldR (m__law_power_of_b1 a_p) (1 : Int) (rng 0 (a_k).toNat)).bind fun s4 => R.ok s4
def sp__law_power_of (K : PySem.W.Frag) : Sp := fun vs H Q _ => ∃ (a_p : Int) (a_k : Int), vs = [(.int a_p), (.int a_k)] ∧ wp (m__law_power_of a_p a_k) (fun r => ∀ H', Gr [] H H' → Q (.int r) H') (fun _ => False)
theorem ok__law_power_of {P : Program} {w : World} {K : PySem.W.Frag} {mg : Str → Option Value} {base : Heap} {f : Addr} {fd : FuncData} (F : Fun K "_law_power_of" "_law_power_of" s__law_power_of f fd) (z_range : mg "range" = none) : FnOk P w K mg base CX0 1 f fd ["p", "k"] (sp__law_power_of K) := by
  refine F.ok sc__law_power_of (fun vs H Q E h => ?_) (fun cdv A outer s H0 vs Q E hr h => ?_)
  · obtain ⟨a_p, a_k, rfl, hm⟩ := h
    rfl
  · obtain ⟨a_p, a_k, rfl, hm⟩ := h
    have hm : wp (m__law_power_of a_p a_k) _ _ := hm
    unfold m__law_power_of at hm
    refine ⟨_, (pss_cons (ps_set (i := 2) sc__law_power_of.nd rfl (Or.inl rfl) pe_int) (pss_cons (ps_for PassesOwn.never rfl (pi_range1 (by rfl) z_range (pa_cons (pv 1) pa_nil)) (pg_name (i := 3) sc__law_power_of.nd rfl (Or.inl rfl)) (pss_one (ps_set (i := 2) sc__law_power_of.nd rfl (Or.inl rfl) (pe_op op_mul (pv 2) (pv 0))))) (pss_one (ps_ret (pv 2))))), ?_⟩
    have g0 := Gr.refl (A := []) H0
    refine rd_seq (rd_asg (rd_c (rd_gn ?_)))
    refine rd_nx ?_
    refine seq_join (t := tFor _ _ _) (wp_bind hm) (fun (s : Int) (σ : L2.St) (H : Hp) => ∃ (o8 : Option V), σ = [some (.int a_p), some (.int a_k), some (.int s), o8] ∧ Gr [] H0 H) (fun N2 hN3 hm => ?_) (fun s4 σ H5 hr6 hm => ?_)
    · have gl7 := Gr.refl (A := []) H0
      obtain ⟨c13, hm⟩ := wp_grd hm
      have gl14 := Gr.refl (A := []) H0
      refine rd_for (rd_r1 (rd_cons (rd_var rfl (rd_nil ⟨_, rfl, c13.1, c13.2, for_rngR (lo := 0) (n := (a_k).toNat) (fun (s : Int) (σ : L2.St) (H : Hp) => ∃ (o8 : Option V), σ = [some (.int a_p), some (.int a_k), some (.int s), o8] ∧ Gr [] H0 H) (by exact wp_N hm (fun s σ' H' hr hz => hN3 s σ' H' hr hz)) ⟨_, rfl, gl14⟩ (fun x15 s9 σ H10 N12 hr11 hm => ?_)⟩))))
      unfold m__law_power_of_b1 at hm
      obtain ⟨o20, rfl, g19⟩ := hr11
      have g0 := Gr.of0' g0 g19
      have gl14 := Gr.of0' gl14 g19
      obtain ⟨c21, hm⟩ := wp_grd hm
      refine rd_gn (rd_asg (rd_op (rd_var rfl (rd_var rfl (rd_rI (c21) (rd_gn ?_))))))
      exact hm _ _ ⟨_, rfl, gl14⟩
    obtain ⟨o23, rfl, g22⟩ := hr6
    have g0 := Gr.of0' g0 g22
    exact rd_ret (rd_var rfl (hm _ g0))

abbrev s_moebius : Stmt := topS 9
abbrev n_moebius : List Str := ["n", "number", "_", "k"]
theorem sc_moebius : FnScope n_moebius ["n"] (defScope s_moebius) := ⟨rfl, rfl, rfl, by decide +kernel, rfl, by decide +kernel, by decide +kernel⟩
def m_moebius_b1 (s10 : Int) (x27 : (Int × Int)) : R (Lp (Int) (Int)) :=
  if (decide ((1 : Int) < x27.2)) = true then (R.ok (Lp.rt (0 : Int))) else (R.ok (Lp.nx (-s10)))
def m_moebius (a_n : Int) : R Int :=
  ((m_prime_powers a_n).bind fun t14 => loopR m_moebius_b1 (1 : Int) t14).bind fun o => Le.thn o (fun s4 => R.ok s4) (fun r => R.ok r)
def sp_moebius (K : PySem.W.Frag) : Sp := fun vs H Q _ => ∃ (a_n : Int), vs = [(.int a_n)] ∧ wp (m_moebius a_n) (fun r => ∀ H', Gr [] H H' → Q (.int r) H') (fun _ => False)
theorem ok_moebius {P : Program} {w : World} {K : PySem.W.Frag} {mg : Str → Option Value} {base : Heap} {f : Addr} {fd : FuncData} (F : Fun K "moebius" "moebius" s_moebius f fd) (c_prime_powers : Cal P w K mg base CX0 2 "prime_powers" ["n"] (sp_prime_powers K)) : FnOk P w K mg base CX0 3 f fd ["n"] (sp_moebius K) := by
  obtain ⟨f_prime_powers, fd_prime_powers, G_prime_powers, g_prime_powers, k_prime_powers, b_prime_powers⟩ := c_prime_powers
  refine F.ok sc_moebius (fun vs H Q E h => ?_) (fun cdv A outer s H0 vs Q E hr h => ?_)
  · obtain ⟨a_n, rfl, hm⟩ := h
    rfl
  · obtain ⟨a_n, rfl, hm⟩ := h
    have hm : wp (m_moebius a_n) _ _ := hm
    unfold m_moebius at hm
    refine ⟨_, (pss_cons (ps_set (i := 1) sc_moebius.nd rfl (Or.inl rfl) pe_int) (pss_cons (ps_for PassesOwn.never rfl (pi_tupK (K := K) (pe_call G_prime_powers (hr.mono (by decide)) (by rfl) g_prime_powers k_prime_powers b_prime_powers .nil pass0 (pa_cons (pv 0) pa_nil)) rfl) (pg_tup rfl (pgs_cons (pg_name (i := 2) sc_moebius.nd rfl (Or.inl rfl)) (pgs_cons (pg_name (i := 3) sc_moebius.nd rfl (Or.inl rfl)) pgs_nil))) (pss_cons (ps_if (pt_cmpR op_gt (pv 3) pe_int (nomark _)) (pss_one (ps_ret pe_int)) pss_nil) (pss_one (ps_set (i := 1) sc_moebius.nd rfl (Or.inl rfl) (pe_un un_neg (pv 1)))))) (pss_one (ps_ret (pv 1))))), ?_⟩
    have g0 := Gr.refl (A := []) H0
    refine rd_seq (rd_asg (rd_c (rd_gn ?_)))
    refine rd_nx ?_
    refine seq_joinL (t := tFor _ _ _) (wp_le hm) (fun (s : Int) (σ : L2.St) (H : Hp) => ∃ (o8 : Option V) (o9 : Option V), σ = [some (.int a_n), some (.int s), o8, o9] ∧ Gr [] H0 H) (fun N2 hm => ?_) (fun s4 σ H5 hr6 hm => ?_)
    · have gl7 := Gr.refl (A := []) H0
      refine rd_for (rd_it (rd_call (rd_cons (rd_var rfl (rd_nil ⟨_, rfl, wp_imp (wp_bind hm) (fun t14 hm v17 H15 g16 h18 => ?_) (fun _ e => e)⟩)))))
      have g0 := g0.of0' g16
      have gl7 := gl7.of0' g16
      obtain ⟨a22, ea23, vs19, hl20, hp21⟩ := id h18
      have gl26 := Gr.refl (A := []) H15
      refine ⟨_, ea23, ⟨_, hl20⟩, for_tupL (r := (rP K rI rI)) (H0 := H15) (fun (s : Int) (σ : L2.St) (H : Hp) => ∃ (o24 : Option V) (o25 : Option V), σ = [some (.int a_n), some (.int s), o24, o25] ∧ Gr [] H15 H) hp21 (by exact wp_imp hm (fun o ho => leP_imp ho (fun s hz σ' H' hr => hz σ' H' (by obtain ⟨w0, w1, e, g⟩ := hr; exact ⟨w0, w1, e, gl7.trans g⟩)) (fun _ h => h)) (fun _ e => e)) ⟨_, _, rfl, gl26⟩ (fun _ _ _ hr => by obtain ⟨_, _, _, g⟩ := hr; exact g.tup hl20) (fun x27 v28 s10 σ H11 N13 hx29 hr12 hm => ?_)⟩
      unfold m_moebius_b1 at hm
      obtain ⟨o32, o33, rfl, g31⟩ := hr12
      have g0 := Gr.of0' g0 g31
      have gl26 := Gr.of0' gl26 g31
      have hx29 := Imm.mono g31 hx29
      obtain ⟨a34, x35, x36, ea40, h37, h38, h39⟩ := id hx29
      obtain rfl := h38
      obtain rfl := h39
      refine rd_gtE ea40 h37 rfl (rd_gc (rd_gn (rd_gc (rd_gn (rd_g0 ?_)))))
      refine rd_seq (rd_if (rd_T (rd_op (rd_var rfl (rd_c (rd_rI0 (rd_kB ?_)))))))
      refine iteB (fun e41 => ?_) (fun e41 => ?_)
      · have hm := ifT e41 (wp_iteB hm)
        exact rd_ret (rd_c (hm _ g0))
      have hm := ifF e41 (wp_iteB hm)
      refine rd_next (rd_nx ?_)
      refine rd_asg (rd_un (rd_var rfl (rd_rU (rd_gn ?_))))
      exact hm _ _ ⟨_, _, rfl, gl26⟩
    obtain ⟨o43, o44, rfl, g42⟩ := hr6
    have g0 := Gr.of0' g0 g42
    exact rd_ret (rd_var rfl (hm _ g0))

abbrev s_is_prime : Stmt := topS 3
abbrev n_is_prime : List Str := ["n"]
theorem sc_is_prime : FnScope n_is_prime ["n"] (defScope s_is_prime) := ⟨rfl, rfl, rfl, by decide +kernel, rfl, by decide +kernel, by decide +kernel⟩
def m_is_prime (a_n : Int) : R Bool :=
  (andR (R.ok (decide ((1 : Int) < a_n))) ((m_least_divisor a_n (2 : Int)).bind fun t5 => R.ok (decide (t5 = a_n)))).bind fun t8 => R.ok t8
def sp_is_prime (K : PySem.W.Frag) : Sp := fun vs H Q _ => ∃ (a_n : Int), vs = [(.int a_n)] ∧ wp (m_is_prime a_n) (fun r => ∀ H', Gr [] H H' → Q (.bl r) H') (fun _ => False)
theorem ok_is_prime {P : Program} {w : World} {K : PySem.W.Frag} {mg : Str → Option Value} {base : Heap} {f : Addr} {fd : FuncData} (F : Fun K "is_prime" "is_prime" s_is_prime f fd) (c_least_divisor : Cal P w K mg base CX0 1 "least_divisor" ["n", "start"] (sp_least_divisor K)) : FnOk P w K mg base CX0 2 f fd ["n"] (sp_is_prime K) := by
  obtain ⟨f_least_divisor, fd_least_divisor, G_least_divisor, g_least_divisor, k_least_divisor, b_least_divisor⟩ := c_least_divisor
  refine F.ok sc_is_prime (fun vs H Q E h => ?_) (fun cdv A outer s H0 vs Q E hr h => ?_)
  · obtain ⟨a_n, rfl, hm⟩ := h
    rfl
  · obtain ⟨a_n, rfl, hm⟩ := h
    have hm : wp (m_is_prime a_n) _ _ := hm
    unfold m_is_prime at hm
    refine ⟨_, (pss_one (ps_ret (pe_and (pe_cmpR op_gt (pv 0) pe_int (nomark _)) (pe_one (pe_cmpR op_eqI (pe_call G_least_divisor (hr.mono (by decide)) (by rfl) g_least_divisor k_least_divisor b_least_divisor .nil pass0 (pa_cons (pv 0) (pa_cons pe_int pa_nil))) (pv 0) (nomark _)))))), ?_⟩
    have g0 := Gr.refl (A := []) H0
    refine rd_ret ((ev_andV (fun Q hm => by
        have gb1 := Gr.refl (A := []) H0
        exact rd_op (rd_var rfl (rd_c (rd_rI0 (hm _ _ gb1 rfl))))) (fun H2 g3 Q hm => by
        have g0 := g0.of0' g3
        have gb4 := Gr.refl (A := []) H2
        refine rd_op (rd_call (rd_cons (rd_var rfl (rd_cons (rd_c (rd_nil ⟨_, _, rfl, wp_imp (wp_bind hm) (fun t5 hm H6 g7 => ?_) (fun _ e => e)⟩))))))
        have g0 := g0.of0' g7
        have gb4 := gb4.of0' g7
        exact rd_var rfl (rd_rI0 (hm _ _ gb4 rfl)))) _ (wp_imp (wp_bind hm) (fun t8 hm v11 H9 g10 h12 => ?_) (fun _ e => e)))
    obtain rfl := h12
    have g0 := g0.of0' g10
    exact hm _ g0

abbrev s_divisors : Stmt := topS 6
abbrev n_divisors : List Str := ["n", "found", "p", "k", "multiples", "_", "divisor"]
theorem sc_divisors : FnScope n_divisors ["n"] (defScope s_divisors) := ⟨rfl, rfl, rfl, by decide +kernel, rfl, by decide +kernel, by decide +kernel⟩
def m_divisors_b1 (x39 : (Int × Int)) (s99 : List Int) (x100 : Int) : R (List Int) :=
  grd (CMul x39.1 x100) <| grd (lenLt s99) <| R.ok (s99 ++ [(x39.1 * x100)])
def m_divisors_b2 (x39 : (Int × Int)) (s68 : (List Int) × (List Int)) (x74 : Int) : R ((List Int) × (List Int)) :=
  (foldR (m_divisors_b1 x39) ([]) s68.2).bind fun s106 => grd (lenOk (s68.1 ++ s106)) <| R.ok ((s68.1 ++ s106), s106)
def m_divisors_b3 (s19 : (List Int)) (x39 : (Int × Int)) : R ((List Int)) :=
  (grd (rgOk x39.2) <| foldR (m_divisors_b2 x39) (s19, s19) (rng 0 (x39.2).toNat)).bind fun s61 => R.ok s61.1
def m_divisors (a_n : Int) : R (List Int) :=
  ((m_prime_powers a_n).bind fun t23 => foldR m_divisors_b3 ([(1 : Int)]) t23).bind fun s10 => R.ok (isort s10)
def sp_divisors (K : PySem.W.Frag) : Sp := fun vs H Q _ => ∃ (a_n : Int), vs = [(.int a_n)] ∧ wp (m_divisors a_n) (fun r => ∀ v H', Gr [] H H' → (rT K rI) H' r v → Q v H') (fun _ => False)
theorem ok_divisors {P : Program} {w : World} {K : PySem.W.Frag} {mg : Str → Option Value} {base : Heap} {f : Addr} {fd : FuncData} (F : Fun K "divisors" "divisors" s_divisors f fd) (z_range : mg "range" = none) (z_sorted : mg "sorted" = none) (z_tuple : mg "tuple" = none) (c_prime_powers : Cal P w K mg base CX0 2 "prime_powers" ["n"] (sp_prime_powers K)) : FnOk P w K mg base CX0 3 f fd ["n"] (sp_divisors K) := by
  obtain ⟨f_prime_powers, fd_prime_powers, G_prime_powers, g_prime_powers, k_prime_powers, b_prime_powers⟩ := c_prime_powers
  refine F.ok sc_divisors (fun vs H Q E h => ?_) (fun cdv A outer s H0 vs Q E hr h => ?_)
  · obtain ⟨a_n, rfl, hm⟩ := h
    rfl
  · obtain ⟨a_n, rfl, hm⟩ := h
    have hm : wp (m_divisors a_n) _ _ := hm
    unfold m_divisors at hm
    refine ⟨_, (pss_cons (ps_set (i := 1) sc_divisors.nd rfl (Or.inl rfl) (pe_lst (pa_cons pe_int pa_nil))) (pss_cons (ps_for PassesOwn.never rfl (pi_tupK (K := K) (pe_call G_prime_powers (hr.mono (by decide)) (by rfl) g_prime_powers k_prime_powers b_prime_powers .nil pass0 (pa_cons (pv 0) pa_nil)) rfl) (pg_tup rfl (pgs_cons (pg_name (i := 2) sc_divisors.nd rfl (Or.inr rfl)) (pgs_cons (pg_name (i := 3) sc_divisors.nd rfl (Or.inl rfl)) pgs_nil))) (pss_cons (ps_set (i := 4) sc_divisors.nd rfl (Or.inl rfl) (pv 1)) (pss_one (ps_for PassesOwn.never rfl (pi_range1 (by rfl) z_range (pa_cons (pv 3) pa_nil)) (pg_name (i := 5) sc_divisors.nd rfl (Or.inl rfl)) (pss_cons (ps_setLc (i := 4) (own := [("divisor", 6)]) (g := gName 6) (tt := tYes) rfl sc_divisors.nd rfl rfl (sw_true rfl rfl rfl (by decide +kernel)) (pi_listK (K := K) (pv 4) rfl) (blkOk_by (own := [("divisor", 6)]) (N := n_divisors) (sc := defScope s_divisors) (by decide +kernel)) (fun _ _ _ _ _ => pg_name (i := 6) sc_divisors.nd rfl (Or.inl rfl)) (fun _ _ _ _ _ => pts_nil) (fun _ _ _ _ _ => (pe_op op_mul (pv 2) (pv 6)))) (pss_one (ps_set (i := 1) sc_divisors.nd rfl (Or.inl rfl) (pe_op op_cat (pv 1) (pv 4))))))))) (pss_one (ps_ret (pe_callTy (tupleK (K := K) rfl) (by rfl) z_tuple (by decide +kernel) (pa_cons (pe_callB (sortedIK (K := K) rfl) (by rfl) z_sorted (by decide +kernel) (pa_cons (pv 1) pa_nil)) pa_nil)))))), ?_⟩
    have g0 := Gr.refl (A := []) H0
    refine rd_seq (rd_asg (rd_lst (rd_cons (rd_c (rd_nil (mk_L (r := rI) (xs := [(1 : Int)]) (.cons rfl .nil) (by show 1 ≤ sizeLine; decide) fun p1 H2 n3 g4 h5 => ?_))))))
    have nw6 := Gr.free g0 n3
    have g0 := g0.of0' g4
    refine rd_gn ?_
    refine rd_nx ?_
    refine seq_join (t := tFor _ _ _) (wp_bind hm) (fun (s : (List Int)) (σ : L2.St) (H : Hp) => ∃ (q14 : Addr) (o15 : Option V) (o16 : Option V) (o17 : Option V) (o18 : Option V), σ = [some (.int a_n), some (.ref q14), o15, o16, o17, o18, none] ∧ Gr [] H2 H ∧ Ls rI H q14 s ∧ H0 q14 = none) (fun N8 hN9 hm => ?_) (fun s10 σ H11 hr12 hm => ?_)
    · have gl13 := Gr.refl (A := []) H2
      refine rd_for (rd_it (rd_call (rd_cons (rd_var rfl (rd_nil ⟨_, rfl, wp_imp (wp_bind hm) (fun t23 hm v26 H24 g25 h27 => ?_) (fun _ e => e)⟩)))))
      have h5 := Ls.g0 g25 h5
      have g0 := g0.of0' g25
      have gl13 := gl13.of0' g25
      obtain ⟨a31, ea32, vs28, hl29, hp30⟩ := id h27
      have gl38 := Gr.refl (A := []) H24
      refine ⟨_, ea32, ⟨_, hl29⟩, for_tupR (r := (rP K rI rI)) (H0 := H24) (fun (s : (List Int)) (σ : L2.St) (H : Hp) => ∃ (q33 : Addr) (o34 : Option V) (o35 : Option V) (o36 : Option V) (o37 : Option V), σ = [some (.int a_n), some (.ref q33), o34, o35, o36, o37, none] ∧ Gr [] H24 H ∧ Ls rI H q33 s ∧ H0 q33 = none) hp30 (by exact wp_N hm (fun s σ' H' hr hz => hN9 s σ' H' (by obtain ⟨w0, w1, w2, w3, w4, e, g, f0, f1⟩ := hr; exact ⟨w0, w1, w2, w3, w4, e, gl13.trans g, f0, f1⟩) hz)) ⟨_, _, _, _, _, rfl, gl38, h5, nw6⟩ (fun _ _ _ hr => by obtain ⟨_, _, _, _, _, _, g, _, _⟩ := hr; exact g.tup hl29) (fun x39 v40 s19 σ H20 N22 hx41 hr21 hm => ?_)⟩
      unfold m_divisors_b3 at hm
      obtain ⟨q45, o47, o48, o49, o50, rfl, g43, h44, nw46⟩ := hr21
      have g0 := Gr.of0' g0 g43
      have gl38 := Gr.of0' gl38 g43
      have hx41 := Imm.mono g43 hx41
      obtain ⟨a51, x52, x53, ea57, h54, h55, h56⟩ := id hx41
      obtain rfl := h55
      obtain rfl := h56
      refine rd_gtE ea57 h54 rfl (rd_gc (rd_gn (rd_gc (rd_gn (rd_g0 ?_)))))
      refine rd_seq (rd_asg (rd_var rfl (rd_gn ?_)))
      refine rd_nx ?_
      refine nx_join (t := tFor _ _ _) (wp_bind hm) (fun (s : (List Int) × (List Int)) (σ : L2.St) (H : Hp) => ∃ (q65 : Addr) (q66 : Addr) (o67 : Option V), σ = [some (.int a_n), some (.ref q65), some (.int x39.1), some (.int x39.2), some (.ref q66), o67, none] ∧ Gr [] H20 H ∧ Ls rI H q65 s.1 ∧ H0 q65 = none ∧ Ls rI H q66 s.2 ∧ H0 q66 = none) (fun N59 hN60 hm => ?_) (fun s61 σ H62 hr63 hm => ?_)
      · have gl64 := Gr.refl (A := []) H20
        obtain ⟨c72, hm⟩ := wp_grd hm
        have gl73 := Gr.refl (A := []) H20
        refine rd_for (rd_r1 (rd_cons (rd_var rfl (rd_nil ⟨_, rfl, c72.1, c72.2, for_rngR (lo := 0) (n := (x39.2).toNat) (fun (s : (List Int) × (List Int)) (σ : L2.St) (H : Hp) => ∃ (q65 : Addr) (q66 : Addr) (o67 : Option V), σ = [some (.int a_n), some (.ref q65), some (.int x39.1), some (.int x39.2), some (.ref q66), o67, none] ∧ Gr [] H20 H ∧ Ls rI H q65 s.1 ∧ H0 q65 = none ∧ Ls rI H q66 s.2 ∧ H0 q66 = none) (by exact wp_N hm (fun s σ' H' hr hz => hN60 s σ' H' hr hz)) ⟨_, _, _, rfl, gl73, h44, nw46, h44, nw46⟩ (fun x74 s68 σ H69 N71 hr70 hm => ?_)⟩))))
        unfold m_divisors_b2 at hm
        obtain ⟨q80, q83, o85, rfl, g78, h79, nw81, h82, nw84⟩ := hr70
        have g0 := Gr.of0' g0 g78
        have gl38 := Gr.of0' gl38 g78
        have gl73 := Gr.of0' gl73 g78
        obtain ⟨vs86, hl87, hp88⟩ := id (Ls.q h82)
        refine rd_gn (rd_seq (rd_asg (rd_lc (rd_il (rd_var rfl ⟨_, rfl, ⟨_, hl87⟩, fun p89 n90 => ?_⟩)))))
        have ne91 : q80 ≠ p89 := Ls.ne h79 n90
        have ne92 : q83 ≠ p89 := Ls.ne h82 n90
        have nw93 := Gr.free g0 n90
        have nw94 := Gr.free gl38 n90
        have nw95 := Gr.free gl73 n90
        refine lc_lst (r := rI) (H1 := H69) (fun (s : List Int) (H : Hp) => Gr [] H69 H ∧ Ls rI H p89 s) hp88 (wp_bind hm) ⟨Gr.new n90, ⟨[], upd_same, .nil⟩⟩ (fun _ _ hr => by obtain ⟨g, _⟩ := hr; exact g.lst nin0 hl87) (fun x100 v101 s99 H103 N104 hx102 hr105 hm => ?_) (fun s106 H107 hr108 hm => ?_)
        · unfold m_divisors_b1 at hm
          obtain ⟨g109, h110⟩ := hr105
          have h79 := Ls.gA g109 nin0 h79
          have h82 := Ls.gA g109 nin0 h82
          have g0 := Gr.of0' g0 g109
          have gl38 := Gr.of0' gl38 g109
          have gl73 := Gr.of0' gl73 g109
          have gl111 := g109
          obtain rfl := hx102
          obtain ⟨c112, hm⟩ := wp_grd hm
          obtain ⟨c113, hm⟩ := wp_grd hm
          refine rd_gn ⟨rfl, rd_yes (iteT (rd_op (rd_var rfl (rd_var rfl (rd_rI (c112) (lc_add h110 rfl c113 fun H114 g115 h116 => ?_))))))⟩
          have h79 := Ls.g1 g115 ne91 h79
          have h82 := Ls.g1 g115 ne92 h82
          have g0 := Gr.loc g0 nw93 g115
          have gl38 := Gr.loc gl38 nw94 g115
          have gl73 := Gr.loc gl73 nw95 g115
          have gl111 := Gr.loc gl111 n90 g115
          exact hm _ ⟨gl111, h116⟩
        obtain ⟨g117, h118⟩ := hr108
        have h79 := Ls.gA g117 nin0 h79
        have h82 := Ls.gA g117 nin0 h82
        have g0 := Gr.of0' g0 g117
        have gl38 := Gr.of0' gl38 g117
        have gl73 := Gr.of0' gl73 g117
        refine rd_gn ?_
        refine rd_nx ?_
        obtain ⟨c119, hm⟩ := wp_grd hm
        refine rd_asg (rd_op (rd_var rfl (rd_var rfl (cat_L h79 h118 c119 fun p120 H121 n122 g123 h124 => ?_))))
        have ne125 : q80 ≠ p120 := Ls.ne h79 n122
        have ne126 : p89 ≠ p120 := Ls.ne h118 n122
        have nw127 := Gr.free g0 n122
        have nw128 := Gr.free gl38 n122
        have nw129 := Gr.free gl73 n122
        have h79 := Ls.g0 g123 h79
        have h118 := Ls.g0 g123 h118
        have g0 := g0.of0' g123
        have gl38 := gl38.of0' g123
        have gl73 := gl73.of0' g123
        refine rd_gn ?_
        exact hm _ _ ⟨_, _, _, rfl, gl73, h124, nw127, h118, nw93⟩
      obtain ⟨q132, q135, o137, rfl, g130, h131, nw133, h134, nw136⟩ := hr63
      have g0 := Gr.of0' g0 g130
      have gl38 := Gr.of0' gl38 g130
      exact hm _ _ ⟨_, _, _, _, _, rfl, gl38, h131, nw133⟩
    obtain ⟨q140, o142, o143, o144, o145, rfl, g138, h139, nw141⟩ := hr12
    have g0 := Gr.of0' g0 g138
    refine rd_ret (rd_cb (rd_cons (rd_cb (rd_cons (rd_var rfl (rd_nil (sorted_L (K := K) (Ls.q h139) fun p146 H147 n148 g149 h150 => ?_)))))))
    have ne151 : q140 ≠ p146 := Ls.ne h139 n148
    have nw152 := Gr.free g0 n148
    have h139 := Ls.g0 g149 h139
    have g0 := g0.of0' g149
    refine rd_nil (tup_of_L (K := K) (Ls.q h150) fun v153 H154 g155 h156 => ?_)
    have h139 := Ls.g0 g155 h139
    have g0 := g0.of0' g155
    exact hm _ _ g0 h156

abbrev s_cofactors : Stmt := topS 8
abbrev n_cofactors : List Str := ["a", "b", "g", "u", "v", "rest", "rest_u", "rest_v", "quotient"]
theorem sc_cofactors : FnScope n_cofactors ["a", "b"] (defScope s_cofactors) := ⟨rfl, rfl, rfl, by decide +kernel, rfl, by decide +kernel, by decide +kernel⟩
def m_cofactors_b1 (s9 : Int × Int × Int × Int × Int × Int) : R Bool :=
  R.ok (!decide (s9.2.2.2.1 = (0 : Int)))
def m_cofactors_b2 (s9 : Int × Int × Int × Int × Int × Int) : R (Int × Int × Int × Int × Int × Int) :=
  grd (CDivN s9.1 s9.2.2.2.1) <| grd (CMul (Int.fdiv s9.1 s9.2.2.2.1) s9.2.2.2.1) <| grd (CMul (Int.fdiv s9.1 s9.2.2.2.1) s9.2.2.2.2.1) <| grd (CMul (Int.fdiv s9.1 s9.2.2.2.1) s9.2.2.2.2.2) <| R.ok (s9.2.2.2.1, s9.2.2.2.2.1, s9.2.2.2.2.2, (s9.1 - ((Int.fdiv s9.1 s9.2.2.2.1) * s9.2.2.2.1)), (s9.2.1 - ((Int.fdiv s9.1 s9.2.2.2.1) * s9.2.2.2.2.1)), (s9.2.2.1 - ((Int.fdiv s9.1 s9.2.2.2.1) * s9.2.2.2.2.2)))
def m_cofactors (a_a : Int) (a_b : Int) : R (Int × Int × Int) :=
  (whileR m_cofactors_b1 m_cofactors_b2 100000 (a_a, (1 : Int), (0 : Int), a_b, (0 : Int), (1 : Int))).bind fun s4 => if (decide (s4.1 < (0 : Int))) = true then (R.ok ((-s4.1), (-s4.2.1), (-s4.2.2.1))) else (R.ok (s4.1, s4.2.1, s4.2.2.1))
def sp_cofactors (K : PySem.W.Frag) : Sp := fun vs H Q _ => ∃ (a_a : Int) (a_b : Int), vs = [(.int a_a), (.int a_b)] ∧ wp (m_cofactors a_a a_b) (fun r => ∀ v H', Gr [] H H' → (rP3 K rI rI rI) H' r v → Q v H') (fun _ => False)
theorem ok_cofactors {P : Program} {w : World} {K : PySem.W.Frag} {mg : Str → Option Value} {base : Heap} {f : Addr} {fd : FuncData} (F : Fun K "cofactors" "cofactors" s_cofactors f fd) : FnOk P w K mg base CX0 1 f fd ["a", "b"] (sp_cofactors K) := by
  refine F.ok sc_cofactors (fun vs H Q E h => ?_) (fun cdv A outer s H0 vs Q E hr h => ?_)
  · obtain ⟨a_a, a_b, rfl, hm⟩ := h
    rfl
  · obtain ⟨a_a, a_b, rfl, hm⟩ := h
    have hm : wp (m_cofactors a_a a_b) _ _ := hm
    unfold m_cofactors at hm
    refine ⟨_, (pss_cons (ps_par3 (i := 2) (j := 3) (l := 4) rfl sc_cofactors.nd rfl rfl rfl (by decide) (by decide) (by decide) rfl rfl rfl (pa_cons (pv 0) (pa_cons pe_int (pa_cons pe_int pa_nil))) (by rfl)) (pss_cons (ps_par3 (i := 5) (j := 6) (l := 7) rfl sc_cofactors.nd rfl rfl rfl (by decide) (by decide) (by decide) rfl rfl rfl (pa_cons (pv 1) (pa_cons pe_int (pa_cons pe_int pa_nil))) (by rfl)) (pss_cons (ps_while PassesOwn.never (pt_cmpR op_neI (pv 5) pe_int (nomark _)) (pss_cons (ps_set (i := 8) sc_cofactors.nd rfl (Or.inl rfl) (pe_op op_fdivN (pv 2) (pv 5))) (pss_cons (ps_par (i := 2) (j := 5) rfl sc_cofactors.nd rfl rfl (by decide) rfl rfl (pa_cons (pv 5) (pa_cons (pe_op op_sub (pv 2) (pe_op op_mul (pv 8) (pv 5))) pa_nil)) (by rfl)) (pss_cons (ps_par (i := 3) (j := 6) rfl sc_cofactors.nd rfl rfl (by decide) rfl rfl (pa_cons (pv 6) (pa_cons (pe_op op_sub (pv 3) (pe_op op_mul (pv 8) (pv 6))) pa_nil)) (by rfl)) (pss_one (ps_par (i := 4) (j := 7) rfl sc_cofactors.nd rfl rfl (by decide) rfl rfl (pa_cons (pv 7) (pa_cons (pe_op op_sub (pv 4) (pe_op op_mul (pv 8) (pv 7))) pa_nil)) (by rfl))))))) (pss_cons (ps_if (pt_cmpR op_lt (pv 2) pe_int (nomark _)) (pss_one (ps_ret (pe_tup (pa_cons (pe_un un_neg (pv 2)) (pa_cons (pe_un un_neg (pv 3)) (pa_cons (pe_un un_neg (pv 4)) pa_nil)))))) pss_nil) (pss_one (ps_ret (pe_tup (pa_cons (pv 2) (pa_cons (pv 3) (pa_cons (pv 4) pa_nil)))))))))), ?_⟩
    have g0 := Gr.refl (A := []) H0
    refine rd_seq (rd_par3 (rd_cons (rd_var rfl (rd_cons (rd_c (rd_cons (rd_c (rd_nil (rd_kp3 ?_)))))))))
    refine rd_nx ?_
    refine rd_seq (rd_par3 (rd_cons (rd_var rfl (rd_cons (rd_c (rd_cons (rd_c (rd_nil (rd_kp3 ?_)))))))))
    refine rd_nx ?_
    refine seq_join (t := tWhile _ _) (wp_bind hm) (fun (s : Int × Int × Int × Int × Int × Int) (σ : L2.St) (H : Hp) => ∃ (o8 : Option V), σ = [some (.int a_a), some (.int a_b), some (.int s.1), some (.int s.2.1), some (.int s.2.2.1), some (.int s.2.2.2.1), some (.int s.2.2.2.2.1), some (.int s.2.2.2.2.2), o8] ∧ Gr [] H0 H) (fun N2 hN3 hm => ?_) (fun s4 σ H5 hr6 hm => ?_)
    · have gl7 := Gr.refl (A := []) H0
      refine whl_R (fun (s : Int × Int × Int × Int × Int × Int) (σ : L2.St) (H : Hp) => ∃ (o8 : Option V), σ = [some (.int a_a), some (.int a_b), some (.int s.1), some (.int s.2.1), some (.int s.2.2.1), some (.int s.2.2.2.1), some (.int s.2.2.2.2.1), some (.int s.2.2.2.2.2), o8] ∧ Gr [] H0 H) (by exact wp_N hm (fun s σ' H' hr hz => hN3 s σ' H' hr hz)) ⟨_, rfl, gl7⟩ (fun s9 σ H10 N12 W13 m14 hW15 hr11 hm => ?_)
      unfold m_cofactors_b1 at hm
      obtain ⟨o19, rfl, g18⟩ := hr11
      have g0 := Gr.of0' g0 g18
      have gl7 := Gr.of0' gl7 g18
      refine rd_T (rd_op (rd_var rfl (rd_c (rd_rI0 (rd_kB ?_)))))
      refine iteB' (fun e20 => ?_) (fun e20 => ?_)
      · exact ifF e20 hm _ _ ⟨_, rfl, gl7⟩
      have hm := ifT e20 hm
      unfold m_cofactors_b2 at hm
      refine ⟨N12, hW15, ?_⟩
      obtain ⟨c21, hm⟩ := wp_grd hm
      refine rd_seq (rd_asg (rd_op (rd_var rfl (rd_var rfl (rd_rI c21 (rd_gn ?_))))))
      refine rd_nx ?_
      obtain ⟨c22, hm⟩ := wp_grd hm
      refine rd_seq (rd_par (rd_cons (rd_var rfl (rd_cons (rd_op (rd_var rfl (rd_op (rd_var rfl (rd_var rfl (rd_rI (c22) (rd_rI0 (rd_nil (rd_kp2 ?_)))))))))))))
      refine rd_nx ?_
      obtain ⟨c23, hm⟩ := wp_grd hm
      refine rd_seq (rd_par (rd_cons (rd_var rfl (rd_cons (rd_op (rd_var rfl (rd_op (rd_var rfl (rd_var rfl (rd_rI (c23) (rd_rI0 (rd_nil (rd_kp2 ?_)))))))))))))
      refine rd_nx ?_
      obtain ⟨c24, hm⟩ := wp_grd hm
      refine rd_par (rd_cons (rd_var rfl (rd_cons (rd_op (rd_var rfl (rd_op (rd_var rfl (rd_var rfl (rd_rI (c24) (rd_rI0 (rd_nil (rd_kp2 ?_))))))))))))
      exact hm _ _ ⟨_, rfl, gl7⟩
    obtain ⟨o26, rfl, g25⟩ := hr6
    have g0 := Gr.of0' g0 g25
    refine rd_seq (rd_if (rd_T (rd_op (rd_var rfl (rd_c (rd_rI0 (rd_kB ?_)))))))
    refine iteB (fun e27 => ?_) (fun e27 => ?_)
    · have hm := ifT e27 (wp_iteB hm)
      refine rd_ret (rd_tup (rd_cons (rd_un (rd_var rfl (rd_rU (rd_cons (rd_un (rd_var rfl (rd_rU (rd_cons (rd_un (rd_var rfl (rd_rU (rd_nil (mk_P3 (K := K) (r := rI) (s := rI) (t := rI) rfl rfl rfl fun v28 H29 g30 h31 => ?_)))))))))))))))
      have g0 := g0.of0' g30
      exact hm _ _ g0 h31
    have hm := ifF e27 (wp_iteB hm)
    refine rd_next (rd_nx ?_)
    refine rd_ret (rd_tup (rd_cons (rd_var rfl (rd_cons (rd_var rfl (rd_cons (rd_var rfl (rd_nil (mk_P3 (K := K) (r := rI) (s := rI) (t := rI) rfl rfl rfl fun v32 H33 g34 h35 => ?_)))))))))
    have g0 := g0.of0' g34
    exact hm _ _ g0 h35

abbrev s__law_gcd : Stmt := topS 13
abbrev n__law_gcd : List Str := ["a", "b"]
theorem sc__law_gcd : FnScope n__law_gcd ["a", "b"] (defScope s__law_gcd) := ⟨rfl, rfl, rfl, by decide +kernel, rfl, by decide +kernel, by decide +kernel⟩
def m__law_gcd_b1 (s8 : Int × Int) : R Bool :=
  R.ok (!decide (s8.2 = (0 : Int)))
def m__law_gcd_b2 (s8 : Int × Int) : R (Int × Int) :=
  grd (0 < s8.2) <| R.ok (s8.2, (s8.1 % s8.2))
def m__law_gcd (a_a : Int) (a_b : Int) : R Int :=
  (whileR m__law_gcd_b1 m__law_gcd_b2 100000 ((pabs a_a), (pabs a_b))).bind fun s4 => R.ok s4.1
def sp__law_gcd (K : PySem.W.Frag) : Sp := fun vs H Q _ => ∃ (a_a : Int) (a_b : Int), vs = [(.int a_a), (.int a_b)] ∧ wp (m__law_gcd a_a a_b) (fun r => ∀ H', Gr [] H H' → Q (.int r) H') (fun _ => False)
theorem ok__law_gcd {P : Program} {w : World} {K : PySem.W.Frag} {mg : Str → Option Value} {base : Heap} {f : Addr} {fd : FuncData} (F : Fun K "_law_gcd" "_law_gcd" s__law_gcd f fd) (z_abs : mg "abs" = none) (z_int : mg "int" = none) : FnOk P w K mg base CX0 1 f fd ["a", "b"] (sp__law_gcd K) := by
  refine F.ok sc__law_gcd (fun vs H Q E h => ?_) (fun cdv A outer s H0 vs Q E hr h => ?_)
  · obtain ⟨a_a, a_b, rfl, hm⟩ := h
    rfl
  · obtain ⟨a_a, a_b, rfl, hm⟩ := h
    have hm : wp (m__law_gcd a_a a_b) _ _ := hm
    unfold m__law_gcd at hm
    refine ⟨_, (pss_cons (ps_set (i := 0) sc__law_gcd.nd rfl (Or.inl rfl) (pe_callB call_abs (by rfl) z_abs (by decide +kernel) (pa_cons (pv 0) pa_nil))) (pss_cons (ps_set (i := 1) sc__law_gcd.nd rfl (Or.inl rfl) (pe_callB call_abs (by rfl) z_abs (by decide +kernel) (pa_cons (pv 1) pa_nil))) (pss_cons (ps_while PassesOwn.never (pt_cmpR op_neI (pv 1) pe_int (nomark _)) (pss_one (ps_par (i := 0) (j := 1) rfl sc__law_gcd.nd rfl rfl (by decide) rfl rfl (pa_cons (pv 1) (pa_cons (pe_op op_mod (pe_callTy call_int1 (by rfl) z_int (by decide +kernel) (pa_cons (pv 0) pa_nil)) (pv 1)) pa_nil)) (by rfl)))) (pss_one (ps_ret (pv 0)))))), ?_⟩
    have g0 := Gr.refl (A := []) H0
    refine rd_seq (rd_asg (rd_cb (rd_cons (rd_var rfl (rd_nil (rd_abs (rd_gn ?_)))))))
    refine rd_nx ?_
    refine rd_seq (rd_asg (rd_cb (rd_cons (rd_var rfl (rd_nil (rd_abs (rd_gn ?_)))))))
    refine rd_nx ?_
    refine seq_join (t := tWhile _ _) (wp_bind hm) (fun (s : Int × Int) (σ : L2.St) (H : Hp) => σ = [some (.int s.1), some (.int s.2)] ∧ Gr [] H0 H) (fun N2 hN3 hm => ?_) (fun s4 σ H5 hr6 hm => ?_)
    · have gl7 := Gr.refl (A := []) H0
      refine whl_R (fun (s : Int × Int) (σ : L2.St) (H : Hp) => σ = [some (.int s.1), some (.int s.2)] ∧ Gr [] H0 H) (by exact wp_N hm (fun s σ' H' hr hz => hN3 s σ' H' hr hz)) ⟨rfl, gl7⟩ (fun s8 σ H9 N11 W12 m13 hW14 hr10 hm => ?_)
      unfold m__law_gcd_b1 at hm
      obtain ⟨rfl, g17⟩ := hr10
      have g0 := Gr.of0' g0 g17
      have gl7 := Gr.of0' gl7 g17
      refine rd_T (rd_op (rd_var rfl (rd_c (rd_rI0 (rd_kB ?_)))))
      refine iteB' (fun e18 => ?_) (fun e18 => ?_)
      · exact ifF e18 hm _ _ ⟨rfl, gl7⟩
      have hm := ifT e18 hm
      unfold m__law_gcd_b2 at hm
      refine ⟨N11, hW14, ?_⟩
      obtain ⟨c19, hm⟩ := wp_grd hm
      refine rd_par (rd_cons (rd_var rfl (rd_cons (rd_op (rd_cb (rd_cons (rd_var rfl (rd_nil (rd_int (rd_var rfl (rd_rI c19 (rd_nil (rd_kp2 ?_)))))))))))))
      exact hm _ _ ⟨rfl, gl7⟩
    obtain ⟨rfl, g20⟩ := hr6
    have g0 := Gr.of0' g0 g20
    exact rd_ret (rd_var rfl (hm _ g0))

abbrev s_common : Stmt := topS 7
abbrev n_common : List Str := ["numbers", "divisor", "number"]
theorem sc_common : FnScope n_common ["numbers"] (defScope s_common) := ⟨rfl, rfl, rfl, by decide +kernel, rfl, by decide +kernel, by decide +kernel⟩
def m_common_b1 (s9 : Int) (x17 : Int) : R (Int) :=
  R.ok (pgcd s9 x17)
def m_common (a_numbers : (List Int)) : R Int :=
  (foldR m_common_b1 (0 : Int) a_numbers).bind fun s4 => R.ok s4
def sp_common (K : PySem.W.Frag) : Sp := fun vs H Q _ => ∃ (a_numbers : (List Int)) (p_numbers : Addr), vs = [.ref p_numbers] ∧ Ls rI H p_numbers a_numbers ∧ wp (m_common a_numbers) (fun r => ∀ H', Gr [] H H' → Q (.int r) H') (fun _ => False)
theorem ok_common {P : Program} {w : World} {K : PySem.W.Frag} {mg : Str → Option Value} {base : Heap} {f : Addr} {fd : FuncData} (F : Fun K "common" "common" s_common f fd) (z_gcd : mg "gcd" = some (.builtin "math.gcd")) : FnOk P w K mg base CX0 1 f fd ["numbers"] (sp_common K) := by
  refine F.ok sc_common (fun vs H Q E h => ?_) (fun cdv A outer s H0 vs Q E hr h => ?_)
  · obtain ⟨a_numbers, p_numbers, rfl, h_numbers, hm⟩ := h
    rfl
  · obtain ⟨a_numbers, p_numbers, rfl, h_numbers, hm⟩ := h
    have hm : wp (m_common a_numbers) _ _ := hm
    unfold m_common at hm
    refine ⟨_, (pss_cons (ps_set (i := 1) sc_common.nd rfl (Or.inl rfl) pe_int) (pss_cons (ps_for PassesOwn.never rfl (pi_listK (K := K) (pv 0) rfl) (pg_name (i := 2) sc_common.nd rfl (Or.inl rfl)) (pss_one (ps_set (i := 1) sc_common.nd rfl (Or.inl rfl) (pe_callBfun cr_gcd (by rfl) z_gcd (pa_cons (pv 1) (pa_cons (pv 2) pa_nil)))))) (pss_one (ps_ret (pv 1))))), ?_⟩
    have g0 := Gr.refl (A := []) H0
    refine rd_seq (rd_asg (rd_c (rd_gn ?_)))
    refine rd_nx ?_
    refine seq_join (t := tFor _ _ _) (wp_bind hm) (fun (s : Int) (σ : L2.St) (H : Hp) => ∃ (o8 : Option V), σ = [some (.ref p_numbers), some (.int s), o8] ∧ Gr [] H0 H) (fun N2 hN3 hm => ?_) (fun s4 σ H5 hr6 hm => ?_)
    · have gl7 := Gr.refl (A := []) H0
      obtain ⟨vs13, hl14, hp15⟩ := id (Ls.q h_numbers)
      have gl16 := Gr.refl (A := []) H0
      refine rd_for (rd_il (rd_var rfl ⟨_, rfl, ⟨_, hl14⟩, for_lstR (r := rI) (H0 := H0) (fun (s : Int) (σ : L2.St) (H : Hp) => ∃ (o8 : Option V), σ = [some (.ref p_numbers), some (.int s), o8] ∧ Gr [] H0 H) hp15 (by exact wp_N hm (fun s σ' H' hr hz => hN3 s σ' H' hr hz)) ⟨_, rfl, gl16⟩ (fun _ _ _ hr => by obtain ⟨_, _, g⟩ := hr; exact g.lst nin0 hl14) (fun x17 v18 s9 σ H10 N12 hx19 hr11 hm => ?_)⟩))
      unfold m_common_b1 at hm
      obtain ⟨o22, rfl, g21⟩ := hr11
      have h_numbers := Ls.gA g21 nin0 h_numbers
      have g0 := Gr.of0' g0 g21
      have gl16 := Gr.of0' gl16 g21
      obtain rfl := hx19
      refine rd_gn (rd_asg (rd_cb (rd_cons (rd_var rfl (rd_cons (rd_var rfl (rd_nil (rd_gcd (rd_gn ?_)))))))))
      exact hm _ _ ⟨_, rfl, gl16⟩
    obtain ⟨o24, rfl, g23⟩ := hr6
    have h_numbers := Ls.gA g23 nin0 h_numbers
    have g0 := Gr.of0' g0 g23
    exact rd_ret (rd_var rfl (hm _ g0))

abbrev s_common_2 : Stmt := topS 7
abbrev n_common_2 : List Str := ["numbers", "divisor", "number"]
theorem sc_common_2 : FnScope n_common_2 ["numbers"] (defScope s_common_2) := ⟨rfl, rfl, rfl, by decide +kernel, rfl, by decide +kernel, by decide +kernel⟩
def m_common_2_b1 (s9 : Int) (x19 : Int) : R (Int) :=
  R.ok (pgcd s9 x19)
def m_common_2 (a_numbers : (List Int)) : R Int :=
  (foldR m_common_2_b1 (0 : Int) a_numbers).bind fun s4 => R.ok s4
def sp_common_2 (K : PySem.W.Frag) : Sp := fun vs H Q _ => ∃ (a_numbers : (List Int)) (v_numbers : V), vs = [v_numbers] ∧ (rT K rI) H a_numbers v_numbers ∧ wp (m_common_2 a_numbers) (fun r => ∀ H', Gr [] H H' → Q (.int r) H') (fun _ => False)
theorem ok_common_2 {P : Program} {w : World} {K : PySem.W.Frag} {mg : Str → Option Value} {base : Heap} {f : Addr} {fd : FuncData} (F : Fun K "common" "common" s_common_2 f fd) (z_gcd : mg "gcd" = some (.builtin "math.gcd")) : FnOk P w K mg base CX0 1 f fd ["numbers"] (sp_common_2 K) := by
  refine F.ok sc_common_2 (fun vs H Q E h => ?_) (fun cdv A outer s H0 vs Q E hr h => ?_)
  · obtain ⟨a_numbers, v_numbers, rfl, h_numbers, hm⟩ := h
    rfl
  · obtain ⟨a_numbers, v_numbers, rfl, h_numbers, hm⟩ := h
    have hm : wp (m_common_2 a_numbers) _ _ := hm
    unfold m_common_2 at hm
    refine ⟨_, (pss_cons (ps_set (i := 1) sc_common_2.nd rfl (Or.inl rfl) pe_int) (pss_cons (ps_for PassesOwn.never rfl (pi_tupK (K := K) (pv 0) rfl) (pg_name (i := 2) sc_common_2.nd rfl (Or.inl rfl)) (pss_one (ps_set (i := 1) sc_common_2.nd rfl (Or.inl rfl) (pe_callBfun cr_gcd (by rfl) z_gcd (pa_cons (pv 1) (pa_cons (pv 2) pa_nil)))))) (pss_one (ps_ret (pv 1))))), ?_⟩
    have g0 := Gr.refl (A := []) H0
    refine rd_seq (rd_asg (rd_c (rd_gn ?_)))
    refine rd_nx ?_
    refine seq_join (t := tFor _ _ _) (wp_bind hm) (fun (s : Int) (σ : L2.St) (H : Hp) => ∃ (o8 : Option V), σ = [some v_numbers, some (.int s), o8] ∧ Gr [] H0 H) (fun N2 hN3 hm => ?_) (fun s4 σ H5 hr6 hm => ?_)
    · have gl7 := Gr.refl (A := []) H0
      obtain ⟨a16, ea17, vs13, hl14, hp15⟩ := id h_numbers
      have gl18 := Gr.refl (A := []) H0
      refine rd_for (rd_it (rd_var rfl ⟨_, ea17, ⟨_, hl14⟩, for_tupR (r := rI) (H0 := H0) (fun (s : Int) (σ : L2.St) (H : Hp) => ∃ (o8 : Option V), σ = [some v_numbers, some (.int s), o8] ∧ Gr [] H0 H) hp15 (by exact wp_N hm (fun s σ' H' hr hz => hN3 s σ' H' hr hz)) ⟨_, rfl, gl18⟩ (fun _ _ _ hr => by obtain ⟨_, _, g⟩ := hr; exact g.tup hl14) (fun x19 v20 s9 σ H10 N12 hx21 hr11 hm => ?_)⟩))
      unfold m_common_2_b1 at hm
      obtain ⟨o24, rfl, g23⟩ := hr11
      have h_numbers := Imm.mono g23 h_numbers
      have g0 := Gr.of0' g0 g23
      have gl18 := Gr.of0' gl18 g23
      obtain rfl := hx21
      refine rd_gn (rd_asg (rd_cb (rd_cons (rd_var rfl (rd_cons (rd_var rfl (rd_nil (rd_gcd (rd_gn ?_)))))))))
      exact hm _ _ ⟨_, rfl, gl18⟩
    obtain ⟨o26, rfl, g25⟩ := hr6
    have h_numbers := Imm.mono g25 h_numbers
    have g0 := Gr.of0' g0 g25
    exact rd_ret (rd_var rfl (hm _ g0))

abbrev s_is_integer : Stmt := topS 2
abbrev n_is_integer : List Str := ["value"]
theorem sc_is_integer : FnScope n_is_integer ["value"] (defScope s_is_integer) := ⟨rfl, rfl, rfl, by decide +kernel, rfl, by decide +kernel, by decide +kernel⟩
def m_is_integer (a_value : V) : R Bool :=
  (andR (grd (scalV a_value = true) <| R.ok (isIntV a_value)) (grd (scalV a_value = true) <| R.ok (!(isBoolV a_value)))).bind fun t7 => R.ok t7
def sp_is_integer (K : PySem.W.Frag) : Sp := fun vs H Q _ => ∃ (a_value : V), vs = [a_value] ∧ wp (m_is_integer a_value) (fun r => ∀ H', Gr [] H H' → Q (.bl r) H') (fun _ => False)
theorem ok_is_integer {P : Program} {w : World} {K : PySem.W.Frag} {mg : Str → Option Value} {base : Heap} {f : Addr} {fd : FuncData} (F : Fun K "is_integer" "is_integer" s_is_integer f fd) (z_isinstance : mg "isinstance" = none) (z_int : mg "int" = none) (z_bool : mg "bool" = none) : FnOk P w K mg base CX0 1 f fd ["value"] (sp_is_integer K) := by
  refine F.ok sc_is_integer (fun vs H Q E h => ?_) (fun cdv A outer s H0 vs Q E hr h => ?_)
  · obtain ⟨a_value, rfl, hm⟩ := h
    rfl
  · obtain ⟨a_value, rfl, hm⟩ := h
    have hm : wp (m_is_integer a_value) _ _ := hm
    unfold m_is_integer at hm
    refine ⟨_, (pss_one (ps_ret (pe_and (pe_callB (isiK (K := K) rfl) (by rfl) z_isinstance (by decide +kernel) (pa_cons (pv 0) (pa_cons (pe_bltn (by rfl) z_int (by decide +kernel) (show L2.RelV (.ty "int") (.type "int") from rfl)) pa_nil))) (pe_one (pe_not (pe_callB (isiK (K := K) rfl) (by rfl) z_isinstance (by decide +kernel) (pa_cons (pv 0) (pa_cons (pe_bltn (by rfl) z_bool (by decide +kernel) (show L2.RelV (.ty "bool") (.type "bool") from rfl)) pa_nil)))))))), ?_⟩
    have g0 := Gr.refl (A := []) H0
    refine rd_ret ((ev_andV (fun Q hm => by
        have gb1 := Gr.refl (A := []) H0
        obtain ⟨c2, hm⟩ := wp_grd hm
        exact rd_cb (rd_cons (rd_var rfl (rd_cons (rd_c (rd_nil (isi_intV c2 (hm _ _ gb1 rfl)))))))) (fun H3 g4 Q hm => by
        have g0 := g0.of0' g4
        have gb5 := Gr.refl (A := []) H3
        obtain ⟨c6, hm⟩ := wp_grd hm
        exact rd_notV (rd_cb (rd_cons (rd_var rfl (rd_cons (rd_c (rd_nil (isi_boolV c6 (rd_kN (hm _ _ gb5 rfl))))))))))) _ (wp_imp (wp_bind hm) (fun t7 hm v10 H8 g9 h11 => ?_) (fun _ e => e)))
    obtain rfl := h11
    have g0 := g0.of0' g9
    exact hm _ g0

abbrev s_law : Stmt := topS 16
abbrev n_law : List Str := ["script", "state", "n", "primes", "pairs", "total", "sign", "p", "k", "a", "b", "g", "u", "v", "numbers", "due", "item"]
theorem sc_law : FnScope n_law ["script"] (defScope s_law) := ⟨rfl, rfl, rfl, by decide +kernel, rfl, by decide +kernel, by decide +kernel⟩
def m_law_b1 (s35 : Int × Int) (x45 : (Int × Int)) : R (Lp (Int × Int) (Bool)) :=
  if (decide (x45.2 < (1 : Int))) = true then (R.ok (Lp.rt false)) else ((m__law_power_of x45.1 x45.2).bind fun t60 => grd (CMul s35.1 t60) <| ((R.ok (decide (x45.2 = (1 : Int)))).bind fun b => if b = true then R.ok (-s35.2) else R.ok (0 : Int)).bind fun t71 => R.ok (Lp.nx ((s35.1 * t60), t71)))
def m_law_b2 (s97 : List Int) (x98 : (Int × Int)) : R (List Int) :=
  grd (lenLt s97) <| R.ok (s97 ++ [x98.1])
def m_law_b3 (t9 : Int × (List Int)) (s167 : List Int) (x168 : Int) : R (List Int) :=
  grd (0 < x168) <| if (decide ((((1 : Int) + t9.1) % x168) = (0 : Int))) = true then (grd (lenLt s167) <| R.ok (s167 ++ [x168])) else R.ok s167
def m_law_b4 (s251 : List Int × List Int) (x252 : Int) : R (List Int × List Int) :=
  (m__law_take s251.2 (61 : Int)).bind fun t265 => grd (lenLt s251.1) <| R.ok ((s251.1 ++ [(t265.1 - (30 : Int))]), t265.2)
def m_law_b5 (s292 : Int) (x300 : Int) : R (Int) :=
  (m__law_gcd s292 x300).bind fun t306 => R.ok t306
def m_law (a_script : (List Int)) : R Bool :=
  (m__law_state a_script).bind fun t1 => (m__law_take t1 (400 : Int)).bind fun t9 => (m__law_primes ((1 : Int) + t9.1)).bind fun t13 => (m_prime_powers ((1 : Int) + t9.1)).bind fun t21 => (loopR m_law_b1 ((1 : Int), (1 : Int)) t21).bind fun o => Le.thn o (fun s29 => (orR (R.ok (!true)) (orR ((foldR m_law_b2 ([]) t21).bind fun s104 => R.ok (!decide (s104 = t13))) (R.ok (!decide (s29.1 = ((1 : Int) + t9.1)))))).bind fun t126 => if t126 = true then (R.ok false) else ((orR ((m_moebius ((1 : Int) + t9.1)).bind fun t131 => R.ok (!decide (t131 = s29.2))) (orR ((m_is_prime ((1 : Int) + t9.1)).bind fun t137 => R.ok (!decide (V.bl t137 = V.bl (decide (t13 = [((1 : Int) + t9.1)]))))) ((m_divisors ((1 : Int) + t9.1)).bind fun t152 => grd (rg2Ok (1 : Int) (((1 : Int) + t9.1) + (1 : Int))) <| (foldR (m_law_b3 t9) ([]) (rng (1 : Int) ((((1 : Int) + t9.1) + (1 : Int)) - (1 : Int)).toNat)).bind fun s174 => R.ok (!decide (t152 = s174))))).bind fun t192 => if t192 = true then (R.ok false) else ((m__law_take t9.2 (121 : Int)).bind fun t196 => (m__law_take t196.2 (121 : Int)).bind fun t200 => (m_cofactors (t196.1 - (60 : Int)) (t200.1 - (60 : Int))).bind fun t204 => (orR ((m__law_gcd (t196.1 - (60 : Int)) (t200.1 - (60 : Int))).bind fun t219 => R.ok (!decide (t204.1 = t219))) (grd (CMul t204.2.1 (t196.1 - (60 : Int))) <| grd (CMul t204.2.2 (t200.1 - (60 : Int))) <| R.ok (!decide (((t204.2.1 * (t196.1 - (60 : Int))) + (t204.2.2 * (t200.1 - (60 : Int)))) = t204.1)))).bind fun t227 => if t227 = true then (R.ok false) else ((m__law_take t200.2 (4 : Int)).bind fun t238 => grd (rgOk t238.1) <| (foldR m_law_b4 ([], t238.2) (rng 0 (t238.1).toNat)).bind fun s258 => grd (lenOk ([(t196.1 - (60 : Int)), (t200.1 - (60 : Int))] ++ s258.1)) <| (foldR m_law_b5 (0 : Int) ([(t196.1 - (60 : Int)), (t200.1 - (60 : Int))] ++ s258.1)).bind fun s287 => (orR ((m_common ([(t196.1 - (60 : Int)), (t200.1 - (60 : Int))] ++ s258.1)).bind fun t312 => R.ok (!decide (t312 = s287))) (orR (grd (lenOk (([(t196.1 - (60 : Int)), (t200.1 - (60 : Int))] ++ s258.1) ++ [(0 : Int)])) <| (m_common_2 (([(t196.1 - (60 : Int)), (t200.1 - (60 : Int))] ++ s258.1) ++ [(0 : Int)])).bind fun t331 => R.ok (!decide (t331 = s287))) ((m_common ([] : List Int)).bind fun t345 => R.ok (!decide (t345 = (0 : Int)))))).bind fun t348 => if t348 = true then (R.ok false) else ((andR ((m_is_prime (0 : Int)).bind fun t353 => R.ok (!t353)) (andR ((m_is_prime (-(7 : Int))).bind fun t359 => R.ok (!t359)) (andR ((m_is_prime (1 : Int)).bind fun t365 => R.ok (!t365)) (andR ((m_is_integer (V.int (-((1 : Int) + t9.1)))).bind fun t372 => R.ok t372) (andR ((m_is_integer (V.bl true)).bind fun t379 => R.ok (!t379)) ((m_is_integer (V.str ("1" : PySem.Str))).bind fun t386 => R.ok (!t386))))))).bind fun t389 => R.ok t389))))) (fun r => R.ok r)
def sp_law (K : PySem.W.Frag) : Sp := fun vs H Q _ => ∃ (a_script : (List Int)) (p_script : Addr), vs = [.ref p_script] ∧ Lq K rI H p_script a_script ∧ wp (m_law a_script) (fun r => ∀ H', Gr [] H H' → Q (.bl r) H') (fun _ => False)
theorem ok_law {P : Program} {w : World} {K : PySem.W.Frag} {mg : Str → Option Value} {base : Heap} {f : Addr} {fd : FuncData} (F : Fun K "law" "law" s_law f fd) (z_isinstance : mg "isinstance" = none) (z_tuple : mg "tuple" = none) (z_range : mg "range" = none) (c__law_state : Cal P w K mg base CX0 1 "_law_state" ["script"] (sp__law_state K)) (c__law_take : Cal P w K mg base CX0 1 "_law_take" ["state", "m"] (sp__law_take K)) (c__law_primes : Cal P w K mg base CX0 1 "_law_primes" ["n"] (sp__law_primes K)) (c_prime_powers : Cal P w K mg base CX0 2 "prime_powers" ["n"] (sp_prime_powers K)) (c__law_power_of : Cal P w K mg base CX0 1 "_law_power_of" ["p", "k"] (sp__law_power_of K)) (c_moebius : Cal P w K mg base CX0 3 "moebius" ["n"] (sp_moebius K)) (c_is_prime : Cal P w K mg base CX0 2 "is_prime" ["n"] (sp_is_prime K)) (c_divisors : Cal P w K mg base CX0 3 "divisors" ["n"] (sp_divisors K)) (c_cofactors : Cal P w K mg base CX0 1 "cofactors" ["a", "b"] (sp_cofactors K)) (c__law_gcd : Cal P w K mg base CX0 1 "_law_gcd" ["a", "b"] (sp__law_gcd K)) (c_common : Cal P w K mg base CX0 1 "common" ["numbers"] (sp_common K)) (c_common_2 : Cal P w K mg base CX0 1 "common" ["numbers"] (sp_common_2 K)) (c_is_integer : Cal P w K mg base CX0 1 "is_integer" ["value"] (sp_is_integer K)) : FnOk P w K mg base CX0 4 f fd ["script"] (sp_law K) := by
  obtain ⟨f__law_state, fd__law_state, G__law_state, g__law_state, k__law_state, b__law_state⟩ := c__law_state
  obtain ⟨f__law_take, fd__law_take, G__law_take, g__law_take, k__law_take, b__law_take⟩ := c__law_take
  obtain ⟨f__law_primes, fd__law_primes, G__law_primes, g__law_primes, k__law_primes, b__law_primes⟩ := c__law_primes
  obtain ⟨f_prime_powers, fd_prime_powers, G_prime_powers, g_prime_powers, k_prime_powers, b_prime_powers⟩ := c_prime_powers
  obtain ⟨f__law_power_of, fd__law_power_of, G__law_power_of, g__law_power_of, k__law_power_of, b__law_power_of⟩ := c__law_power_of
  obtain ⟨f_moebius, fd_moebius, G_moebius, g_moebius, k_moebius, b_moebius⟩ := c_moebius
  obtain ⟨f_is_prime, fd_is_prime, G_is_prime, g_is_prime, k_is_prime, b_is_prime⟩ := c_is_prime
  obtain ⟨f_divisors, fd_divisors, G_divisors, g_divisors, k_divisors, b_divisors⟩ := c_divisors
  obtain ⟨f_cofactors, fd_cofactors, G_cofactors, g_cofactors, k_cofactors, b_cofactors⟩ := c_cofactors
  obtain ⟨f__law_gcd, fd__law_gcd, G__law_gcd, g__law_gcd, k__law_gcd, b__law_gcd⟩ := c__law_gcd
  obtain ⟨f_common, fd_common, G_common, g_common, k_common, b_common⟩ := c_common
  obtain ⟨f_common_2, fd_common_2, G_common_2, g_common_2, k_common_2, b_common_2⟩ := c_common_2
  obtain ⟨f_is_integer, fd_is_integer, G_is_integer, g_is_integer, k_is_integer, b_is_integer⟩ := c_is_integer
  refine F.ok sc_law (fun vs H Q E h => ?_) (fun cdv A outer s H0 vs Q E hr h => ?_)
  · obtain ⟨a_script, p_script, rfl, h_script, hm⟩ := h
    rfl
  · obtain ⟨a_script, p_script, rfl, h_script, hm⟩ := h
    have hm : wp (m_law a_script) _ _ := hm
    unfold m_law at hm
    refine ⟨_, (pss_cons (ps_set (i := 1) sc_law.nd rfl (Or.inr rfl) (pe_call G__law_state (hr.mono (by decide)) (by rfl) g__law_state k__law_state b__law_state .nil pass0 (pa_cons (pv 0) pa_nil))) (pss_cons (ps_set (i := 2) sc_law.nd rfl (Or.inr rfl) (pe_op op_add pe_int (pe_call G__law_take (hr.mono (by decide)) (by rfl) g__law_take k__law_take b__law_take .nil pass0 (pa_cons (pv 1) (pa_cons pe_int pa_nil))))) (pss_cons (ps_set (i := 3) sc_law.nd rfl (Or.inl rfl) (pe_call G__law_primes (hr.mono (by decide)) (by rfl) g__law_primes k__law_primes b__law_primes .nil pass0 (pa_cons (pv 2) pa_nil))) (pss_cons (ps_set (i := 4) sc_law.nd rfl (Or.inl rfl) (pe_call G_prime_powers (hr.mono (by decide)) (by rfl) g_prime_powers k_prime_powers b_prime_powers .nil pass0 (pa_cons (pv 2) pa_nil))) (pss_cons (ps_set (i := 5) sc_law.nd rfl (Or.inl rfl) pe_int) (pss_cons (ps_set (i := 6) sc_law.nd rfl (Or.inl rfl) pe_int) (pss_cons (ps_for PassesOwn.never rfl (pi_tupK (K := K) (pv 4) rfl) (pg_tup rfl (pgs_cons (pg_name (i := 7) sc_law.nd rfl (Or.inl rfl)) (pgs_cons (pg_name (i := 8) sc_law.nd rfl (Or.inl rfl)) pgs_nil))) (pss_cons (ps_if (pt_cmpR op_lt (pv 8) pe_int (nomark _)) (pss_one (ps_ret pe_bl)) pss_nil) (pss_cons (ps_set (i := 5) sc_law.nd rfl (Or.inl rfl) (pe_op op_mul (pv 5) (pe_call G__law_power_of (hr.mono (by decide)) (by rfl) g__law_power_of k__law_power_of b__law_power_of .nil pass0 (pa_cons (pv 7) (pa_cons (pv 8) pa_nil))))) (pss_one (ps_set (i := 6) sc_law.nd rfl (Or.inl rfl) (pe_ifExp (pt_cmpR op_eqI (pv 8) pe_int (nomark _)) (pe_un un_neg (pv 6)) pe_int)))))) (pss_cons (ps_if (PW.pt (pw_or (pt_not (pt_val (pe_callB (isiK (K := K) rfl) (by rfl) z_isinstance (by decide +kernel) (pa_cons (pv 4) (pa_cons (pe_bltn (by rfl) z_tuple (by decide +kernel) (show L2.RelV (.ty "tuple") (.type "tuple") from rfl)) pa_nil))))) (pw_or (pt_cmpR (neDK (K := K) hr.units rfl) (pe_lc (own := [("p", 7), ("k", 8)]) (g := (gTup K 2 (gCons (gName 7) (gCons (gName 8) gNil)))) (tt := tYes) rfl sc_law.nd (pi_tupK (K := K) (pv 4) rfl) (blkOk_by (own := [("p", 7), ("k", 8)]) (N := n_law) (sc := defScope s_law) (by decide +kernel)) (fun _ _ _ _ _ => pg_tup rfl (pgs_cons (pg_name (i := 7) sc_law.nd rfl (Or.inl rfl) (Or.inr rfl)) (pgs_cons (pg_name (i := 8) sc_law.nd rfl (Or.inl rfl) (Or.inr rfl)) pgs_nil))) (fun _ _ _ _ _ => pts_nil) (fun _ _ _ _ _ => (pv 7))) (pv 3) (nomark _)) (pw_or1 (pt_cmpR op_neI (pv 5) (pv 2) (nomark _)))))) (pss_one (ps_ret pe_bl)) pss_nil) (pss_cons (ps_if (PW.pt (pw_or (pt_cmpR op_neI (pe_call G_moebius (hr.mono (by decide)) (by rfl) g_moebius k_moebius b_moebius .nil pass0 (pa_cons (pv 2) pa_nil)) (pv 6) (nomark _)) (pw_or (pt_cmpR op_ne (pe_call G_is_prime (hr.mono (by decide)) (by rfl) g_is_prime k_is_prime b_is_prime .nil pass0 (pa_cons (pv 2) pa_nil)) (pe_cmpR (eqDK (K := K) hr.units rfl) (pv 3) (pe_lst (pa_cons (pv 2) pa_nil)) (nomark _)) (nomark _)) (pw_or1 (pt_cmpR (neDK (K := K) hr.units rfl) (pe_call G_divisors (hr.mono (by decide)) (by rfl) g_divisors k_divisors b_divisors .nil pass0 (pa_cons (pv 2) pa_nil)) (pe_callTy (tupleK (K := K) rfl) (by rfl) z_tuple (by decide +kernel) (pa_cons (pe_lc (own := [("k", 8)]) (g := gName 8) rfl sc_law.nd (pi_range2 (by rfl) z_range (pa_cons pe_int (pa_cons (pe_op op_add (pv 2) pe_int) pa_nil))) (blkOk_by (own := [("k", 8)]) (N := n_law) (sc := defScope s_law) (by decide +kernel)) (fun _ _ _ _ _ => pg_name (i := 8) sc_law.nd rfl (Or.inl rfl)) (fun _ _ _ _ _ => pts_one (pt_cmpR op_eqI (pe_op op_mod (pv 2) (pv 8)) pe_int (nomark _))) (fun _ _ _ _ _ => (pv 8))) pa_nil)) (nomark _)))))) (pss_one (ps_ret pe_bl)) pss_nil) (pss_cons (ps_par (i := 9) (j := 10) rfl sc_law.nd rfl rfl (by decide) rfl rfl (pa_cons (pe_op op_sub (pe_call G__law_take (hr.mono (by decide)) (by rfl) g__law_take k__law_take b__law_take .nil pass0 (pa_cons (pv 1) (pa_cons pe_int pa_nil))) pe_int) (pa_cons (pe_op op_sub (pe_call G__law_take (hr.mono (by decide)) (by rfl) g__law_take k__law_take b__law_take .nil pass0 (pa_cons (pv 1) (pa_cons pe_int pa_nil))) pe_int) pa_nil)) (by rfl)) (pss_cons (ps_asg (pe_call G_cofactors (hr.mono (by decide)) (by rfl) g_cofactors k_cofactors b_cofactors .nil pass0 (pa_cons (pv 9) (pa_cons (pv 10) pa_nil))) (pg_tup rfl (pgs_cons (pg_name (i := 11) sc_law.nd rfl (Or.inl rfl)) (pgs_cons (pg_name (i := 12) sc_law.nd rfl (Or.inl rfl)) (pgs_cons (pg_name (i := 13) sc_law.nd rfl (Or.inl rfl)) pgs_nil))))) (pss_cons (ps_if (PW.pt (pw_or (pt_cmpR op_neI (pv 11) (pe_call G__law_gcd (hr.mono (by decide)) (by rfl) g__law_gcd k__law_gcd b__law_gcd .nil pass0 (pa_cons (pv 9) (pa_cons (pv 10) pa_nil))) (nomark _)) (pw_or1 (pt_cmpR op_neI (pe_op op_add (pe_op op_mul (pv 12) (pv 9)) (pe_op op_mul (pv 13) (pv 10))) (pv 11) (nomark _))))) (pss_one (ps_ret pe_bl)) pss_nil) (pss_cons (ps_set (i := 14) sc_law.nd rfl (Or.inl rfl) (pe_op op_cat (pe_lst (pa_cons (pv 9) (pa_cons (pv 10) pa_nil))) (pe_lc (own := [("k", 8)]) (g := gName 8) (tt := tYes) rfl sc_law.nd (pi_range1 (by rfl) z_range (pa_cons (pe_call G__law_take (hr.mono (by decide)) (by rfl) g__law_take k__law_take b__law_take .nil pass0 (pa_cons (pv 1) (pa_cons pe_int pa_nil))) pa_nil)) (blkOk_by (own := [("k", 8)]) (N := n_law) (sc := defScope s_law) (by decide +kernel)) (fun _ _ _ _ _ => pg_name (i := 8) sc_law.nd rfl (Or.inl rfl)) (fun _ _ _ _ _ => pts_nil) (fun _ _ _ _ _ => (pe_op op_sub (pe_call G__law_take (hr.mono (by decide)) (by rfl) g__law_take k__law_take b__law_take .nil pass0 (pa_cons (pv 1) (pa_cons pe_int pa_nil))) pe_int))))) (pss_cons (ps_set (i := 15) sc_law.nd rfl (Or.inl rfl) pe_int) (pss_cons (ps_for PassesOwn.never rfl (pi_listK (K := K) (pv 14) rfl) (pg_name (i := 16) sc_law.nd rfl (Or.inl rfl)) (pss_one (ps_set (i := 15) sc_law.nd rfl (Or.inl rfl) (pe_call G__law_gcd (hr.mono (by decide)) (by rfl) g__law_gcd k__law_gcd b__law_gcd .nil pass0 (pa_cons (pv 15) (pa_cons (pv 16) pa_nil)))))) (pss_cons (ps_if (PW.pt (pw_or (pt_cmpR op_neI (pe_call G_common (hr.mono (by decide)) (by rfl) g_common k_common b_common .nil pass0 (pa_cons (pv 14) pa_nil)) (pv 15) (nomark _)) (pw_or (pt_cmpR op_neI (pe_call G_common_2 (hr.mono (by decide)) (by rfl) g_common_2 k_common_2 b_common_2 .nil pass0 (pa_cons (pe_op (catAK (K := K) rfl) (pe_callTy (tupleK (K := K) rfl) (by rfl) z_tuple (by decide +kernel) (pa_cons (pv 14) pa_nil)) (pe_tup (pa_cons pe_int pa_nil))) pa_nil)) (pv 15) (nomark _)) (pw_or1 (pt_cmpR op_neI (pe_call G_common (hr.mono (by decide)) (by rfl) g_common k_common b_common .nil pass0 (pa_cons (pe_lst pa_nil) pa_nil)) pe_int (nomark _)))))) (pss_one (ps_ret pe_bl)) pss_nil) (pss_one (ps_ret (pe_and (pe_not (pe_call G_is_prime (hr.mono (by decide)) (by rfl) g_is_prime k_is_prime b_is_prime .nil pass0 (pa_cons pe_int pa_nil))) (pe_and (pe_not (pe_call G_is_prime (hr.mono (by decide)) (by rfl) g_is_prime k_is_prime b_is_prime .nil pass0 (pa_cons (pe_un un_neg pe_int) pa_nil))) (pe_and (pe_not (pe_call G_is_prime (hr.mono (by decide)) (by rfl) g_is_prime k_is_prime b_is_prime .nil pass0 (pa_cons pe_int pa_nil))) (pe_and (pe_call G_is_integer (hr.mono (by decide)) (by rfl) g_is_integer k_is_integer b_is_integer .nil pass0 (pa_cons (pe_un un_neg (pv 2)) pa_nil)) (pe_and (pe_not (pe_call G_is_integer (hr.mono (by decide)) (by rfl) g_is_integer k_is_integer b_is_integer .nil pass0 (pa_cons pe_bl pa_nil))) (pe_one (pe_not (pe_call G_is_integer (hr.mono (by decide)) (by rfl) g_is_integer k_is_integer b_is_integer .nil pass0 (pa_cons pe_str pa_nil))))))))))))))))))))))))))), ?_⟩
    have g0 := Gr.refl (A := []) H0
    refine rd_seq (rd_asg (rd_call (rd_cons (rd_var rfl (rd_nil ⟨_, _, rfl, h_script, wp_imp (wp_bind hm) (fun t1 hm p4 H2 g3 n5 h6 => ?_) (fun _ e => e)⟩)))))
    have nw8 := Gr.free g0 n5
    have h_script := Lq.g0 g3 h_script
    have g0 := g0.of0' g3
    refine rd_gn ?_
    refine rd_nx ?_
    refine rd_seq (rd_asg (rd_op (rd_c (rd_call (rd_cons (rd_var rfl (rd_cons (rd_c (rd_nil ⟨_, _, _, rfl, h6, wp_imp (wp_bind hm) (fun t9 hm H10 g11 h12 => ?_) (fun _ e => e)⟩)))))))))
    have g0 := Gr.loc g0 nw8 g11
    refine rd_rI0 (rd_gn ?_)
    refine rd_nx ?_
    refine rd_seq (rd_asg (rd_call (rd_cons (rd_var rfl (rd_nil ⟨_, rfl, wp_imp (wp_bind hm) (fun t13 hm p16 H14 g15 n17 h18 => ?_) (fun _ e => e)⟩)))))
    have ne19 : p4 ≠ p16 := Ls.ne h12 n17
    have nw20 := Gr.free g0 n17
    have h12 := Ls.g0 g15 h12
    have g0 := g0.of0' g15
    refine rd_gn ?_
    refine rd_nx ?_
    refine rd_seq (rd_asg (rd_call (rd_cons (rd_var rfl (rd_nil ⟨_, rfl, wp_imp (wp_bind hm) (fun t21 hm v24 H22 g23 h25 => ?_) (fun _ e => e)⟩)))))
    have h12 := Ls.g0 g23 h12
    have h18 := Ls.g0 g23 h18
    have g0 := g0.of0' g23
    refine rd_gn ?_
    refine rd_nx ?_
    refine rd_seq (rd_asg (rd_c (rd_gn ?_)))
    refine rd_nx ?_
    refine rd_seq (rd_asg (rd_c (rd_gn ?_)))
    refine rd_nx ?_
    refine seq_joinL (t := tFor _ _ _) (wp_le hm) (fun (s : Int × Int) (σ : L2.St) (H : Hp) => ∃ (o33 : Option V) (o34 : Option V), σ = [some (.ref p_script), some (.ref p4), some (.int ((1 : Int) + t9.1)), some (.ref p16), some v24, some (.int s.1), some (.int s.2), o33, o34, none, none, none, none, none, none, none, none] ∧ Gr [] H22 H) (fun N27 hm => ?_) (fun s29 σ H30 hr31 hm => ?_)
    · have gl32 := Gr.refl (A := []) H22
      obtain ⟨a42, ea43, vs39, hl40, hp41⟩ := id h25
      have gl44 := Gr.refl (A := []) H22
      refine rd_for (rd_it (rd_var rfl ⟨_, ea43, ⟨_, hl40⟩, for_tupL (r := (rP K rI rI)) (H0 := H22) (fun (s : Int × Int) (σ : L2.St) (H : Hp) => ∃ (o33 : Option V) (o34 : Option V), σ = [some (.ref p_script), some (.ref p4), some (.int ((1 : Int) + t9.1)), some (.ref p16), some v24, some (.int s.1), some (.int s.2), o33, o34, none, none, none, none, none, none, none, none] ∧ Gr [] H22 H) hp41 (by exact wp_imp hm (fun o ho => leP_imp ho (fun s hz σ' H' hr => hz σ' H' hr) (fun _ h => h)) (fun _ e => e)) ⟨_, _, rfl, gl44⟩ (fun _ _ _ hr => by obtain ⟨_, _, _, g⟩ := hr; exact g.tup hl40) (fun x45 v46 s35 σ H36 N38 hx47 hr37 hm => ?_)⟩))
      unfold m_law_b1 at hm
      obtain ⟨o50, o51, rfl, g49⟩ := hr37
      have h12 := Ls.gA g49 nin0 h12
      have h18 := Ls.gA g49 nin0 h18
      have h25 := Imm.mono g49 h25
      have g0 := Gr.of0' g0 g49
      have gl44 := Gr.of0' gl44 g49
      have hx47 := Imm.mono g49 hx47
      obtain ⟨a52, x53, x54, ea58, h55, h56, h57⟩ := id hx47
      obtain rfl := h56
      obtain rfl := h57
      refine rd_gtE ea58 h55 rfl (rd_gc (rd_gn (rd_gc (rd_gn (rd_g0 ?_)))))
      refine rd_seq (rd_if (rd_T (rd_op (rd_var rfl (rd_c (rd_rI0 (rd_kB ?_)))))))
      refine iteB (fun e59 => ?_) (fun e59 => ?_)
      · have hm := ifT e59 (wp_iteB hm)
        exact rd_ret (rd_c (hm _ g0))
      have hm := ifF e59 (wp_iteB hm)
      refine rd_next (rd_nx ?_)
      refine rd_seq (rd_asg (rd_op (rd_var rfl (rd_call (rd_cons (rd_var rfl (rd_cons (rd_var rfl (rd_nil ⟨_, _, rfl, wp_imp (wp_bind hm) (fun t60 hm H61 g62 => ?_) (fun _ e => e)⟩)))))))))
      have h12 := Ls.g0 g62 h12
      have h18 := Ls.g0 g62 h18
      have h25 := Imm.mono g62 h25
      have g0 := g0.of0' g62
      have gl44 := gl44.of0' g62
      obtain ⟨c63, hm⟩ := wp_grd hm
      refine rd_rI (c63) (rd_gn ?_)
      refine rd_nx ?_
      refine rd_asg ((ev_if (r := rI) (fun Q hm => by
          have gb64 := Gr.refl (A := []) H61
          exact rd_T (rd_op (rd_var rfl (rd_c (rd_rI0 (rd_kB (hm _ gb64))))))) (fun H65 g66 Q hm => by
          have h12 := Ls.g0 g66 h12
          have h18 := Ls.g0 g66 h18
          have h25 := Imm.mono g66 h25
          have g0 := g0.of0' g66
          have gl44 := gl44.of0' g66
          have gb67 := Gr.refl (A := []) H65
          exact rd_un (rd_var rfl (rd_rU (hm _ _ gb67 rfl)))) (fun H68 g69 Q hm => by
          have h12 := Ls.g0 g69 h12
          have h18 := Ls.g0 g69 h18
          have h25 := Imm.mono g69 h25
          have g0 := g0.of0' g69
          have gl44 := gl44.of0' g69
          have gb70 := Gr.refl (A := []) H68
          exact rd_c (hm _ _ gb70 rfl))) _ (wp_imp (wp_bind hm) (fun t71 hm v72 H73 g74 h75 => ?_) (fun _ e => e)))
      have h12 := Ls.g0 g74 h12
      have h18 := Ls.g0 g74 h18
      have h25 := Imm.mono g74 h25
      have g0 := g0.of0' g74
      have gl44 := gl44.of0' g74
      obtain rfl := h75
      refine rd_gn ?_
      exact hm _ _ ⟨_, _, rfl, gl44⟩
    obtain ⟨o77, o78, rfl, g76⟩ := hr31
    have h12 := Ls.gA g76 nin0 h12
    have h18 := Ls.gA g76 nin0 h18
    have h25 := Imm.mono g76 h25
    have g0 := Gr.of0' g0 g76
    refine rd_seq (rd_if ((ev_or3 (fun Q hm => by
        have gb79 := Gr.refl (A := []) H30
        exact rd_not (rd_B (rd_cb (rd_cons (rd_var rfl (rd_cons (rd_c (rd_nil (isi_ty (S := "tuple") (b := true) (ty_T h25) (by decide +kernel) (rd_kB (hm _ gb79))))))))))) (fun H80 g81 Q hm => by
        have h12 := Ls.g0 g81 h12
        have h18 := Ls.g0 g81 h18
        have h25 := Imm.mono g81 h25
        have g0 := g0.of0' g81
        have gb82 := Gr.refl (A := []) H80
        obtain ⟨a86, ea87, vs83, hl84, hp85⟩ := id h25
        refine rd_T (rd_op (rd_lc (rd_it (rd_var rfl ⟨_, ea87, ⟨_, hl84⟩, fun p88 n89 => ?_⟩))))
        have ne90 : p4 ≠ p88 := Ls.ne h12 n89
        have ne91 : p16 ≠ p88 := Ls.ne h18 n89
        have nw92 := Gr.free g0 n89
        have nw93 := Gr.free gb82 n89
        refine lc_tup (r := (rP K rI rI)) (H1 := H80) (fun (s : List Int) (H : Hp) => Gr [] H80 H ∧ Ls rI H p88 s) hp85 (wp_bind hm) ⟨Gr.new n89, ⟨[], upd_same, .nil⟩⟩ (fun _ _ hr => by obtain ⟨g, _⟩ := hr; exact g.tup hl84) (fun x98 v99 s97 H101 N102 hx100 hr103 hm => ?_) (fun s104 H105 hr106 hm => ?_)
        · unfold m_law_b2 at hm
          obtain ⟨g107, h108⟩ := hr103
          have h12 := Ls.gA g107 nin0 h12
          have h18 := Ls.gA g107 nin0 h18
          have h25 := Imm.mono g107 h25
          have g0 := Gr.of0' g0 g107
          have gb82 := Gr.of0' gb82 g107
          have gl109 := g107
          have hx100 := Imm.mono g107 hx100
          obtain ⟨a110, x111, x112, ea116, h113, h114, h115⟩ := id hx100
          obtain rfl := h114
          obtain rfl := h115
          obtain ⟨c117, hm⟩ := wp_grd hm
          refine rd_gtE ea116 h113 rfl (rd_gc (rd_gn (rd_gc (rd_gn (rd_g0 ⟨rfl, rd_yes (iteT (rd_var rfl (lc_add h108 rfl c117 fun H118 g119 h120 => ?_)))⟩)))))
          have h12 := Ls.g1 g119 ne90 h12
          have h18 := Ls.g1 g119 ne91 h18
          have h25 := Imm.mono g119 h25
          have g0 := Gr.loc g0 nw92 g119
          have gb82 := Gr.loc gb82 nw93 g119
          have gl109 := Gr.loc gl109 n89 g119
          exact hm _ ⟨gl109, h120⟩
        obtain ⟨g121, h122⟩ := hr106
        have h12 := Ls.gA g121 nin0 h12
        have h18 := Ls.gA g121 nin0 h18
        have h25 := Imm.mono g121 h25
        have g0 := Gr.of0' g0 g121
        have gb82 := Gr.of0' gb82 g121
        exact rd_var rfl (ne_D (DRep.lst (DRep.int K)) (rL_of (Ls.q h122)) (rL_of (Ls.q h18)) (rd_kB (hm _ gb82)))) (fun H123 g124 Q hm => by
        have h12 := Ls.g0 g124 h12
        have h18 := Ls.g0 g124 h18
        have h25 := Imm.mono g124 h25
        have g0 := g0.of0' g124
        have gb125 := Gr.refl (A := []) H123
        exact rd_T (rd_op (rd_var rfl (rd_var rfl (rd_rI0 (rd_kB (hm _ gb125)))))))) _ (wp_imp (wp_bind hm) (fun t126 hm H127 g128 => ?_) (fun _ e => e))))
    have h12 := Ls.g0 g128 h12
    have h18 := Ls.g0 g128 h18
    have h25 := Imm.mono g128 h25
    have g0 := g0.of0' g128
    refine iteB (fun e129 => ?_) (fun e129 => ?_)
    · have hm := ifT e129 (wp_iteB hm)
      exact rd_ret (rd_c (hm _ g0))
    have hm := ifF e129 (wp_iteB hm)
    refine rd_next (rd_nx ?_)
    refine rd_seq (rd_if ((ev_or3 (fun Q hm => by
        have gb130 := Gr.refl (A := []) H127
        refine rd_T (rd_op (rd_call (rd_cons (rd_var rfl (rd_nil ⟨_, rfl, wp_imp (wp_bind hm) (fun t131 hm H132 g133 => ?_) (fun _ e => e)⟩)))))
        have h12 := Ls.g0 g133 h12
        have h18 := Ls.g0 g133 h18
        have g0 := g0.of0' g133
        have gb130 := gb130.of0' g133
        exact rd_var rfl (rd_rI0 (rd_kB (hm _ gb130)))) (fun H134 g135 Q hm => by
        have h12 := Ls.g0 g135 h12
        have h18 := Ls.g0 g135 h18
        have g0 := g0.of0' g135
        have gb136 := Gr.refl (A := []) H134
        refine rd_T (rd_op (rd_call (rd_cons (rd_var rfl (rd_nil ⟨_, rfl, wp_imp (wp_bind hm) (fun t137 hm H138 g139 => ?_) (fun _ e => e)⟩)))))
        have h12 := Ls.g0 g139 h12
        have h18 := Ls.g0 g139 h18
        have g0 := g0.of0' g139
        have gb136 := gb136.of0' g139
        refine rd_op (rd_var rfl (rd_lst (rd_cons (rd_var rfl (rd_nil (mk_L (r := rI) (xs := [((1 : Int) + t9.1)]) (.cons rfl .nil) (by show 1 ≤ sizeLine; decide) fun p140 H141 n142 g143 h144 => ?_))))))
        have ne145 : p4 ≠ p140 := Ls.ne h12 n142
        have ne146 : p16 ≠ p140 := Ls.ne h18 n142
        have nw147 := Gr.free g0 n142
        have nw148 := Gr.free gb136 n142
        have h12 := Ls.g0 g143 h12
        have h18 := Ls.g0 g143 h18
        have g0 := g0.of0' g143
        have gb136 := gb136.of0' g143
        exact eq_D (DRep.lst (DRep.int K)) (rL_of (Ls.q h18)) (rL_of (Ls.q h144)) (rd_rNe rfl (rd_kB (hm _ gb136)))) (fun H149 g150 Q hm => by
        have h12 := Ls.g0 g150 h12
        have h18 := Ls.g0 g150 h18
        have g0 := g0.of0' g150
        have gb151 := Gr.refl (A := []) H149
        refine rd_T (rd_op (rd_call (rd_cons (rd_var rfl (rd_nil ⟨_, rfl, wp_imp (wp_bind hm) (fun t152 hm v155 H153 g154 h156 => ?_) (fun _ e => e)⟩)))))
        have h12 := Ls.g0 g154 h12
        have h18 := Ls.g0 g154 h18
        have g0 := g0.of0' g154
        have gb151 := gb151.of0' g154
        obtain ⟨c157, hm⟩ := wp_grd hm
        refine rd_cb (rd_cons (rd_lc (rd_r2 (rd_cons (rd_c (rd_cons (rd_op (rd_var rfl (rd_c (rd_rI0 (rd_nil ⟨_, _, rfl, c157, fun p158 n159 => ?_⟩)))))))))))
        have ne160 : p4 ≠ p158 := Ls.ne h12 n159
        have ne161 : p16 ≠ p158 := Ls.ne h18 n159
        have nw162 := Gr.free g0 n159
        have nw163 := Gr.free gb151 n159
        refine lc_rng (lo := (1 : Int)) (n := ((((1 : Int) + t9.1) + (1 : Int)) - (1 : Int)).toNat) (fun (s : List Int) (H : Hp) => Gr [] H153 H ∧ Ls rI H p158 s) (wp_bind hm) ⟨Gr.new n159, ⟨[], upd_same, .nil⟩⟩ (fun x168 s167 H171 N172 hr173 hm => ?_) (fun s174 H175 hr176 hm => ?_)
        · unfold m_law_b3 at hm
          obtain ⟨g177, h178⟩ := hr173
          have h12 := Ls.gA g177 nin0 h12
          have h18 := Ls.gA g177 nin0 h18
          have h156 := Imm.mono g177 h156
          have g0 := Gr.of0' g0 g177
          have gb151 := Gr.of0' gb151 g177
          have gl179 := g177
          refine rd_gn ⟨rfl, ?_⟩
          obtain ⟨c180, hm⟩ := wp_grd hm
          refine rd_T (rd_op (rd_op (rd_var rfl (rd_var rfl (rd_rI c180 (rd_c (rd_rI0 (rd_kB ?_))))))))
          refine iteB' (fun e181 => ?_) (fun e181 => ?_)
          · exact ifF e181 (wp_iteB hm) _ ⟨gl179, h178⟩
          have hm := ifT e181 (wp_iteB hm)
          obtain ⟨c182, hm⟩ := wp_grd hm
          refine rd_var rfl (lc_add h178 rfl c182 fun H183 g184 h185 => ?_)
          have h12 := Ls.g1 g184 ne160 h12
          have h18 := Ls.g1 g184 ne161 h18
          have h156 := Imm.mono g184 h156
          have g0 := Gr.loc g0 nw162 g184
          have gb151 := Gr.loc gb151 nw163 g184
          have gl179 := Gr.loc gl179 n159 g184
          exact hm _ ⟨gl179, h185⟩
        obtain ⟨g186, h187⟩ := hr176
        have h12 := Ls.gA g186 nin0 h12
        have h18 := Ls.gA g186 nin0 h18
        have h156 := Imm.mono g186 h156
        have g0 := Gr.of0' g0 g186
        have gb151 := Gr.of0' gb151 g186
        refine rd_nil (tup_of_L (K := K) (Ls.q h187) fun v188 H189 g190 h191 => ?_)
        have h12 := Ls.g0 g190 h12
        have h18 := Ls.g0 g190 h18
        have h156 := Imm.mono g190 h156
        have g0 := g0.of0' g190
        have gb151 := gb151.of0' g190
        exact ne_D (DRep.tup (DRep.int K)) h156 h191 (rd_kB (hm _ gb151)))) _ (wp_imp (wp_bind hm) (fun t192 hm H193 g194 => ?_) (fun _ e => e))))
    have h12 := Ls.g0 g194 h12
    have h18 := Ls.g0 g194 h18
    have g0 := g0.of0' g194
    refine iteB (fun e195 => ?_) (fun e195 => ?_)
    · have hm := ifT e195 (wp_iteB hm)
      exact rd_ret (rd_c (hm _ g0))
    have hm := ifF e195 (wp_iteB hm)
    refine rd_next (rd_nx ?_)
    refine rd_seq (rd_par (rd_cons (rd_op (rd_call (rd_cons (rd_var rfl (rd_cons (rd_c (rd_nil ⟨_, _, _, rfl, h12, wp_imp (wp_bind hm) (fun t196 hm H197 g198 h199 => ?_) (fun _ e => e)⟩)))))))))
    have g0 := Gr.loc g0 nw8 g198
    refine rd_c (rd_rI0 (rd_cons (rd_op (rd_call (rd_cons (rd_var rfl (rd_cons (rd_c (rd_nil ⟨_, _, _, rfl, h199, wp_imp (wp_bind hm) (fun t200 hm H201 g202 h203 => ?_) (fun _ e => e)⟩)))))))))
    have g0 := Gr.loc g0 nw8 g202
    refine rd_c (rd_rI0 (rd_nil (rd_kp2 ?_)))
    refine rd_nx ?_
    refine rd_seq (rd_asg (rd_call (rd_cons (rd_var rfl (rd_cons (rd_var rfl (rd_nil ⟨_, _, rfl, wp_imp (wp_bind hm) (fun t204 hm v207 H205 g206 h208 => ?_) (fun _ e => e)⟩)))))))
    have h203 := Ls.g0 g206 h203
    have g0 := g0.of0' g206
    obtain ⟨a209, x210, x211, x212, ea217, h213, h214, h215, h216⟩ := id h208
    obtain rfl := h214
    obtain rfl := h215
    obtain rfl := h216
    refine rd_gtE ea217 h213 rfl (rd_gc (rd_gn (rd_gc (rd_gn (rd_gc (rd_gn (rd_g0 ?_)))))))
    refine rd_nx ?_
    refine rd_seq (rd_if ((ev_or (fun Q hm => by
        have gb218 := Gr.refl (A := []) H205
        refine rd_T (rd_op (rd_var rfl (rd_call (rd_cons (rd_var rfl (rd_cons (rd_var rfl (rd_nil ⟨_, _, rfl, wp_imp (wp_bind hm) (fun t219 hm H220 g221 => ?_) (fun _ e => e)⟩))))))))
        have h203 := Ls.g0 g221 h203
        have g0 := g0.of0' g221
        have gb218 := gb218.of0' g221
        exact rd_rI0 (rd_kB (hm _ gb218))) (fun H222 g223 Q hm => by
        have h203 := Ls.g0 g223 h203
        have g0 := g0.of0' g223
        have gb224 := Gr.refl (A := []) H222
        obtain ⟨c225, hm⟩ := wp_grd hm
        obtain ⟨c226, hm⟩ := wp_grd hm
        exact rd_T (rd_op (rd_op (rd_op (rd_var rfl (rd_var rfl (rd_rI (c225) (rd_op (rd_var rfl (rd_var rfl (rd_rI (c226) (rd_rI0 (rd_var rfl (rd_rI0 (rd_kB (hm _ gb224))))))))))))))))) _ (wp_imp (wp_bind hm) (fun t227 hm H228 g229 => ?_) (fun _ e => e))))
    have h203 := Ls.g0 g229 h203
    have g0 := g0.of0' g229
    refine iteB (fun e230 => ?_) (fun e230 => ?_)
    · have hm := ifT e230 (wp_iteB hm)
      exact rd_ret (rd_c (hm _ g0))
    have hm := ifF e230 (wp_iteB hm)
    refine rd_next (rd_nx ?_)
    refine rd_seq (rd_asg (rd_op (rd_lst (rd_cons (rd_var rfl (rd_cons (rd_var rfl (rd_nil (mk_L (r := rI) (xs := [(t196.1 - (60 : Int)), (t200.1 - (60 : Int))]) (.cons rfl (.cons rfl .nil)) (by show 2 ≤ sizeLine; decide) fun p231 H232 n233 g234 h235 => ?_)))))))))
    have ne236 : p4 ≠ p231 := Ls.ne h203 n233
    have nw237 := Gr.free g0 n233
    have h203 := Ls.g0 g234 h203
    have g0 := g0.of0' g234
    refine rd_lc (rd_r1 (rd_cons (rd_call (rd_cons (rd_var rfl (rd_cons (rd_c (rd_nil ⟨_, _, _, rfl, h203, wp_imp (wp_bind hm) (fun t238 hm H239 g240 h241 => ?_) (fun _ e => e)⟩))))))))
    have h235 := Ls.g1 g240 (Ne.symm ne236) h235
    have g0 := Gr.loc g0 nw8 g240
    obtain ⟨c242, hm⟩ := wp_grd hm
    refine rd_nil ⟨_, rfl, c242.1, c242.2, fun p243 n244 => ?_⟩
    have ne245 : p4 ≠ p243 := Ls.ne h241 n244
    have ne246 : p231 ≠ p243 := Ls.ne h235 n244
    have nw247 := Gr.free g0 n244
    refine lc_rng (lo := 0) (n := (t238.1).toNat) (fun (s : List Int × List Int) (H : Hp) => Gr [p4] H239 H ∧ Ls rI H p243 s.1 ∧ Ls rI H p4 s.2) (wp_bind hm) ⟨Gr.new n244, ⟨[], upd_same, .nil⟩, Ls.g0 (Gr.new (A := []) n244) h241⟩ (fun x252 s251 H255 N256 hr257 hm => ?_) (fun s258 H259 hr260 hm => ?_)
    · unfold m_law_b4 at hm
      obtain ⟨g261, h262, h263⟩ := hr257
      have h235 := Ls.gA g261 (nin1 (Ne.symm ne236) nin0) h235
      have g0 := Gr.many g0 (all1 ((.inr nw8)) all0) g261
      have gl264 := g261
      refine rd_gn ⟨rfl, rd_yes (iteT (rd_op (rd_call (rd_cons (rd_var rfl (rd_cons (rd_c (rd_nil ⟨_, _, _, rfl, h263, wp_imp (wp_bind hm) (fun t265 hm H266 g267 h268 => ?_) (fun _ e => e)⟩))))))))⟩
      have h235 := Ls.g1 g267 (Ne.symm ne236) h235
      have h262 := Ls.g1 g267 (Ne.symm ne245) h262
      have g0 := Gr.loc g0 nw8 g267
      have gl264 := Gr.at1 gl264 (by simp) g267
      obtain ⟨c269, hm⟩ := wp_grd hm
      refine rd_c (rd_rI0 (lc_add h262 rfl c269 fun H270 g271 h272 => ?_))
      have h268 := Ls.g1 g271 ne245 h268
      have h235 := Ls.g1 g271 ne246 h235
      have g0 := Gr.loc g0 nw247 g271
      have gl264 := Gr.loc gl264 n244 g271
      exact hm _ ⟨gl264, h272, h268⟩
    obtain ⟨g273, h274, h275⟩ := hr260
    have h235 := Ls.gA g273 (nin1 (Ne.symm ne236) nin0) h235
    have g0 := Gr.many g0 (all1 ((.inr nw8)) all0) g273
    obtain ⟨c276, hm⟩ := wp_grd hm
    refine cat_L h235 h274 c276 fun p277 H278 n279 g280 h281 => ?_
    have ne282 : p4 ≠ p277 := Ls.ne h275 n279
    have nw283 := Gr.free g0 n279
    have h275 := Ls.g0 g280 h275
    have g0 := g0.of0' g280
    refine rd_gn ?_
    refine rd_nx ?_
    refine rd_seq (rd_asg (rd_c (rd_gn ?_)))
    refine rd_nx ?_
    refine seq_join (t := tFor _ _ _) (wp_bind hm) (fun (s : Int) (σ : L2.St) (H : Hp) => ∃ (o291 : Option V), σ = [some (.ref p_script), some (.ref p4), some (.int ((1 : Int) + t9.1)), some (.ref p16), some v24, some (.int s29.1), some (.int s29.2), o77, o78, some (.int (t196.1 - (60 : Int))), some (.int (t200.1 - (60 : Int))), some (.int t204.1), some (.int t204.2.1), some (.int t204.2.2), some (.ref p277), some (.int s), o291] ∧ Gr [] H278 H) (fun N285 hN286 hm => ?_) (fun s287 σ H288 hr289 hm => ?_)
    · have gl290 := Gr.refl (A := []) H278
      obtain ⟨vs296, hl297, hp298⟩ := id (Ls.q h281)
      have gl299 := Gr.refl (A := []) H278
      refine rd_for (rd_il (rd_var rfl ⟨_, rfl, ⟨_, hl297⟩, for_lstR (r := rI) (H0 := H278) (fun (s : Int) (σ : L2.St) (H : Hp) => ∃ (o291 : Option V), σ = [some (.ref p_script), some (.ref p4), some (.int ((1 : Int) + t9.1)), some (.ref p16), some v24, some (.int s29.1), some (.int s29.2), o77, o78, some (.int (t196.1 - (60 : Int))), some (.int (t200.1 - (60 : Int))), some (.int t204.1), some (.int t204.2.1), some (.int t204.2.2), some (.ref p277), some (.int s), o291] ∧ Gr [] H278 H) hp298 (by exact wp_N hm (fun s σ' H' hr hz => hN286 s σ' H' hr hz)) ⟨_, rfl, gl299⟩ (fun _ _ _ hr => by obtain ⟨_, _, g⟩ := hr; exact g.lst nin0 hl297) (fun x300 v301 s292 σ H293 N295 hx302 hr294 hm => ?_)⟩))
      unfold m_law_b5 at hm
      obtain ⟨o305, rfl, g304⟩ := hr294
      have h281 := Ls.gA g304 nin0 h281
      have g0 := Gr.of0' g0 g304
      have gl299 := Gr.of0' gl299 g304
      obtain rfl := hx302
      refine rd_gn (rd_asg (rd_call (rd_cons (rd_var rfl (rd_cons (rd_var rfl (rd_nil ⟨_, _, rfl, wp_imp (wp_bind hm) (fun t306 hm H307 g308 => ?_) (fun _ e => e)⟩)))))))
      have h281 := Ls.g0 g308 h281
      have g0 := g0.of0' g308
      have gl299 := gl299.of0' g308
      refine rd_gn ?_
      exact hm _ _ ⟨_, rfl, gl299⟩
    obtain ⟨o310, rfl, g309⟩ := hr289
    have h281 := Ls.gA g309 nin0 h281
    have g0 := Gr.of0' g0 g309
    refine rd_seq (rd_if ((ev_or3 (fun Q hm => by
        have gb311 := Gr.refl (A := []) H288
        refine rd_T (rd_op (rd_call (rd_cons (rd_var rfl (rd_nil ⟨_, _, rfl, h281, wp_imp (wp_bind hm) (fun t312 hm H313 g314 => ?_) (fun _ e => e)⟩)))))
        have h281 := Ls.g0 g314 h281
        have g0 := g0.of0' g314
        have gb311 := gb311.of0' g314
        exact rd_var rfl (rd_rI0 (rd_kB (hm _ gb311)))) (fun H315 g316 Q hm => by
        have h281 := Ls.g0 g316 h281
        have g0 := g0.of0' g316
        have gb317 := Gr.refl (A := []) H315
        refine rd_T (rd_op (rd_call (rd_cons (rd_op (rd_cb (rd_cons (rd_var rfl (rd_nil (tup_of_L (K := K) (Ls.q h281) fun v318 H319 g320 h321 => ?_)))))))))
        have h281 := Ls.g0 g320 h281
        have g0 := g0.of0' g320
        have gb317 := gb317.of0' g320
        refine rd_tup (rd_cons (rd_c (rd_nil (mk_T (K := K) (r := rI) (xs := [(0 : Int)]) (.cons rfl .nil) (by show 1 ≤ sizeLine; decide) fun v322 H323 g324 h325 => ?_))))
        have h281 := Ls.g0 g324 h281
        have h321 := Imm.mono g324 h321
        have g0 := g0.of0' g324
        have gb317 := gb317.of0' g324
        obtain ⟨c326, hm⟩ := wp_grd hm
        refine cat_TA h321 h325 c326 fun v327 H328 g329 h330 => ?_
        have h281 := Ls.g0 g329 h281
        have g0 := g0.of0' g329
        have gb317 := gb317.of0' g329
        refine rd_nil ⟨_, _, rfl, h330, wp_imp (wp_bind hm) (fun t331 hm H332 g333 => ?_) (fun _ e => e)⟩
        have h281 := Ls.g0 g333 h281
        have g0 := g0.of0' g333
        have gb317 := gb317.of0' g333
        exact rd_var rfl (rd_rI0 (rd_kB (hm _ gb317)))) (fun H334 g335 Q hm => by
        have h281 := Ls.g0 g335 h281
        have g0 := g0.of0' g335
        have gb336 := Gr.refl (A := []) H334
        refine rd_T (rd_op (rd_call (rd_cons (rd_lst (rd_nil (mk_L (r := rI) (xs := ([] : List Int)) .nil (by show 0 ≤ sizeLine; decide) fun p337 H338 n339 g340 h341 => ?_))))))
        have ne342 : p277 ≠ p337 := Ls.ne h281 n339
        have nw343 := Gr.free g0 n339
        have nw344 := Gr.free gb336 n339
        have h281 := Ls.g0 g340 h281
        have g0 := g0.of0' g340
        have gb336 := gb336.of0' g340
        refine rd_nil ⟨_, _, rfl, h341, wp_imp (wp_bind hm) (fun t345 hm H346 g347 => ?_) (fun _ e => e)⟩
        have h281 := Ls.g0 g347 h281
        have g0 := g0.of0' g347
        have gb336 := gb336.of0' g347
        exact rd_c (rd_rI0 (rd_kB (hm _ gb336))))) _ (wp_imp (wp_bind hm) (fun t348 hm H349 g350 => ?_) (fun _ e => e))))
    have h281 := Ls.g0 g350 h281
    have g0 := g0.of0' g350
    refine iteB (fun e351 => ?_) (fun e351 => ?_)
    · have hm := ifT e351 (wp_iteB hm)
      exact rd_ret (rd_c (hm _ g0))
    have hm := ifF e351 (wp_iteB hm)
    refine rd_next (rd_nx ?_)
    refine rd_ret ((ev_andV6 (fun Q hm => by
        have gb352 := Gr.refl (A := []) H349
        refine rd_notV (rd_call (rd_cons (rd_c (rd_nil ⟨_, rfl, wp_imp (wp_bind hm) (fun t353 hm H354 g355 => ?_) (fun _ e => e)⟩))))
        have g0 := g0.of0' g355
        have gb352 := gb352.of0' g355
        exact rd_kN (hm _ _ gb352 rfl)) (fun H356 g357 Q hm => by
        have g0 := g0.of0' g357
        have gb358 := Gr.refl (A := []) H356
        refine rd_notV (rd_call (rd_cons (rd_un (rd_c (rd_rU (rd_nil ⟨_, rfl, wp_imp (wp_bind hm) (fun t359 hm H360 g361 => ?_) (fun _ e => e)⟩))))))
        have g0 := g0.of0' g361
        have gb358 := gb358.of0' g361
        exact rd_kN (hm _ _ gb358 rfl)) (fun H362 g363 Q hm => by
        have g0 := g0.of0' g363
        have gb364 := Gr.refl (A := []) H362
        refine rd_notV (rd_call (rd_cons (rd_c (rd_nil ⟨_, rfl, wp_imp (wp_bind hm) (fun t365 hm H366 g367 => ?_) (fun _ e => e)⟩))))
        have g0 := g0.of0' g367
        have gb364 := gb364.of0' g367
        exact rd_kN (hm _ _ gb364 rfl)) (fun H368 g369 Q hm => by
        have g0 := g0.of0' g369
        have gb370 := Gr.refl (A := []) H368
        have h371 := (rfl : rA H368 (V.int (-((1 : Int) + t9.1))) (V.int (-((1 : Int) + t9.1))))
        refine rd_call (rd_cons (rd_un (rd_var rfl (rd_rU (rd_nil ⟨_, rfl, wp_imp (wp_bind hm) (fun t372 hm H373 g374 => ?_) (fun _ e => e)⟩)))))
        have g0 := g0.of0' g374
        have gb370 := gb370.of0' g374
        exact hm _ _ gb370 rfl) (fun H375 g376 Q hm => by
        have g0 := g0.of0' g376
        have gb377 := Gr.refl (A := []) H375
        have h378 := (rfl : rA H375 (V.bl true) (V.bl true))
        refine rd_notV (rd_call (rd_cons (rd_c (rd_nil ⟨_, rfl, wp_imp (wp_bind hm) (fun t379 hm H380 g381 => ?_) (fun _ e => e)⟩))))
        have g0 := g0.of0' g381
        have gb377 := gb377.of0' g381
        exact rd_kN (hm _ _ gb377 rfl)) (fun H382 g383 Q hm => by
        have g0 := g0.of0' g383
        have gb384 := Gr.refl (A := []) H382
        have h385 := (rfl : rA H382 (V.str ("1" : PySem.Str)) (V.str ("1" : PySem.Str)))
        refine rd_notV (rd_call (rd_cons (rd_c (rd_nil ⟨_, rfl, wp_imp (wp_bind hm) (fun t386 hm H387 g388 => ?_) (fun _ e => e)⟩))))
        have g0 := g0.of0' g388
        have gb384 := gb384.of0' g388
        exact rd_kN (hm _ _ gb384 rfl))) _ (wp_imp (wp_bind hm) (fun t389 hm v392 H390 g391 h393 => ?_) (fun _ e => e)))
    obtain rfl := h393
    have g0 := g0.of0' g391
    exact hm _ g0

theorem all_mk {l : PySem.W.OpenLaw} {w : World} {K : PySem.W.Frag} {h : Heap} {mg : Str → Option Value} {fa f1 f2 f3 f4 f5 f6 f7 f8 f9 f10 f11 f12 f13 f14 : Addr} (X : K.In h) (G : h.Ns mainGlobals mg) (hfa : mg "law" = some (.ref fa))
    {od1 an1 od2 an2 od3 an3 od4 an4 od5 an5 od6 an6 od7 an7 od8 an8 od9 an9 od10 an10 od11 an11 od12 an12 od13 an13 od14 an14 : Option Addr} {sl1 sl2 sl3 sl4 sl5 sl6 sl7 sl8 sl9 sl10 sl11 sl12 sl13 sl14 : Array (Option Value)} {oc1 kV1 dc1 pm1 ct1 cd1 oc2 kV2 dc2 pm2 ct2 cd2 oc3 kV3 dc3 pm3 ct3 cd3 oc4 kV4 dc4 pm4 ct4 cd4 oc5 kV5 dc5 pm5 ct5 cd5 oc6 kV6 dc6 pm6 ct6 cd6 oc7 kV7 dc7 pm7 ct7 cd7 oc8 kV8 dc8 pm8 ct8 cd8 oc9 kV9 dc9 pm9 ct9 cd9 oc10 kV10 dc10 pm10 ct10 cd10 oc11 kV11 dc11 pm11 ct11 cd11 oc12 kV12 dc12 pm12 ct12 cd12 oc13 kV13 dc13 pm13 ct13 cd13 oc14 kV14 dc14 pm14 ct14 cd14 : Value}
    (a1 : PySem.W.nsIn K mainGlobals "_law_state" = some (some (.ref f1))) (l1 : K.lookup f1 = some ⟨oc1, od1, .func (PySem.W.fnOf "_law_state" "_law_state" (defArgs s__law_state) (defBody s__law_state) (defScope s__law_state) .none kV1 dc1 pm1 an1 cd1 ct1), sl1⟩) (c1 : PySem.W.codeIn K cd1 "_law_state" = true) (k1 : PySem.W.keepIn K (.ref f1) = true)
    (a2 : PySem.W.nsIn K mainGlobals "_law_take" = some (some (.ref f2))) (l2 : K.lookup f2 = some ⟨oc2, od2, .func (PySem.W.fnOf "_law_take" "_law_take" (defArgs s__law_take) (defBody s__law_take) (defScope s__law_take) .none kV2 dc2 pm2 an2 cd2 ct2), sl2⟩) (c2 : PySem.W.codeIn K cd2 "_law_take" = true) (k2 : PySem.W.keepIn K (.ref f2) = true)
    (a3 : PySem.W.nsIn K mainGlobals "_law_primes" = some (some (.ref f3))) (l3 : K.lookup f3 = some ⟨oc3, od3, .func (PySem.W.fnOf "_law_primes" "_law_primes" (defArgs s__law_primes) (defBody s__law_primes) (defScope s__law_primes) .none kV3 dc3 pm3 an3 cd3 ct3), sl3⟩) (c3 : PySem.W.codeIn K cd3 "_law_primes" = true) (k3 : PySem.W.keepIn K (.ref f3) = true)
    (a4 : PySem.W.nsIn K mainGlobals "least_divisor" = some (some (.ref f4))) (l4 : K.lookup f4 = some ⟨oc4, od4, .func (PySem.W.fnOf "least_divisor" "least_divisor" (defArgs s_least_divisor) (defBody s_least_divisor) (defScope s_least_divisor) .none kV4 dc4 pm4 an4 cd4 ct4), sl4⟩) (c4 : PySem.W.codeIn K cd4 "least_divisor" = true) (k4 : PySem.W.keepIn K (.ref f4) = true)
    (a5 : PySem.W.nsIn K mainGlobals "prime_powers" = some (some (.ref f5))) (l5 : K.lookup f5 = some ⟨oc5, od5, .func (PySem.W.fnOf "prime_powers" "prime_powers" (defArgs s_prime_powers) (defBody s_prime_powers) (defScope s_prime_powers) .none kV5 dc5 pm5 an5 cd5 ct5), sl5⟩) (c5 : PySem.W.codeIn K cd5 "prime_powers" = true) (k5 : PySem.W.keepIn K (.ref f5) = true)
    (a6 : PySem.W.nsIn K mainGlobals "_law_power_of" = some (some (.ref f6))) (l6 : K.lookup f6 = some ⟨oc6, od6, .func (PySem.W.fnOf "_law_power_of" "_law_power_of" (defArgs s__law_power_of) (defBody s__law_power_of) (defScope s__law_power_of) .none kV6 dc6 pm6 an6 cd6 ct6), sl6⟩) (c6 : PySem.W.codeIn K cd6 "_law_power_of" = true) (k6 : PySem.W.keepIn K (.ref f6) = true)
    (a7 : PySem.W.nsIn K mainGlobals "moebius" = some (some (.ref f7))) (l7 : K.lookup f7 = some ⟨oc7, od7, .func (PySem.W.fnOf "moebius" "moebius" (defArgs s_moebius) (defBody s_moebius) (defScope s_moebius) .none kV7 dc7 pm7 an7 cd7 ct7), sl7⟩) (c7 : PySem.W.codeIn K cd7 "moebius" = true) (k7 : PySem.W.keepIn K (.ref f7) = true)
    (a8 : PySem.W.nsIn K mainGlobals "is_prime" = some (some (.ref f8))) (l8 : K.lookup f8 = some ⟨oc8, od8, .func (PySem.W.fnOf "is_prime" "is_prime" (defArgs s_is_prime) (defBody s_is_prime) (defScope s_is_prime) .none kV8 dc8 pm8 an8 cd8 ct8), sl8⟩) (c8 : PySem.W.codeIn K cd8 "is_prime" = true) (k8 : PySem.W.keepIn K (.ref f8) = true)
    (a9 : PySem.W.nsIn K mainGlobals "divisors" = some (some (.ref f9))) (l9 : K.lookup f9 = some ⟨oc9, od9, .func (PySem.W.fnOf "divisors" "divisors" (defArgs s_divisors) (defBody s_divisors) (defScope s_divisors) .none kV9 dc9 pm9 an9 cd9 ct9), sl9⟩) (c9 : PySem.W.codeIn K cd9 "divisors" = true) (k9 : PySem.W.keepIn K (.ref f9) = true)
    (a10 : PySem.W.nsIn K mainGlobals "cofactors" = some (some (.ref f10))) (l10 : K.lookup f10 = some ⟨oc10, od10, .func (PySem.W.fnOf "cofactors" "cofactors" (defArgs s_cofactors) (defBody s_cofactors) (defScope s_cofactors) .none kV10 dc10 pm10 an10 cd10 ct10), sl10⟩) (c10 : PySem.W.codeIn K cd10 "cofactors" = true) (k10 : PySem.W.keepIn K (.ref f10) = true)
    (a11 : PySem.W.nsIn K mainGlobals "_law_gcd" = some (some (.ref f11))) (l11 : K.lookup f11 = some ⟨oc11, od11, .func (PySem.W.fnOf "_law_gcd" "_law_gcd" (defArgs s__law_gcd) (defBody s__law_gcd) (defScope s__law_gcd) .none kV11 dc11 pm11 an11 cd11 ct11), sl11⟩) (c11 : PySem.W.codeIn K cd11 "_law_gcd" = true) (k11 : PySem.W.keepIn K (.ref f11) = true)
    (a12 : PySem.W.nsIn K mainGlobals "common" = some (some (.ref f12))) (l12 : K.lookup f12 = some ⟨oc12, od12, .func (PySem.W.fnOf "common" "common" (defArgs s_common) (defBody s_common) (defScope s_common) .none kV12 dc12 pm12 an12 cd12 ct12), sl12⟩) (c12 : PySem.W.codeIn K cd12 "common" = true) (k12 : PySem.W.keepIn K (.ref f12) = true)
    (a13 : PySem.W.nsIn K mainGlobals "is_integer" = some (some (.ref f13))) (l13 : K.lookup f13 = some ⟨oc13, od13, .func (PySem.W.fnOf "is_integer" "is_integer" (defArgs s_is_integer) (defBody s_is_integer) (defScope s_is_integer) .none kV13 dc13 pm13 an13 cd13 ct13), sl13⟩) (c13 : PySem.W.codeIn K cd13 "is_integer" = true) (k13 : PySem.W.keepIn K (.ref f13) = true)
    (a14 : PySem.W.nsIn K mainGlobals "law" = some (some (.ref f14))) (l14 : K.lookup f14 = some ⟨oc14, od14, .func (PySem.W.fnOf "law" "law" (defArgs s_law) (defBody s_law) (defScope s_law) .none kV14 dc14 pm14 an14 cd14 ct14), sl14⟩) (c14 : PySem.W.codeIn K cd14 "law" = true) (k14 : PySem.W.keepIn K (.ref f14) = true)
    (z_abs : PySem.W.nsIn K mainGlobals "abs" = some none)
    (z_int : PySem.W.nsIn K mainGlobals "int" = some none)
    (z_range : PySem.W.nsIn K mainGlobals "range" = some none)
    (z_len : PySem.W.nsIn K mainGlobals "len" = some none)
    (z_tuple : PySem.W.nsIn K mainGlobals "tuple" = some none)
    (z_sorted : PySem.W.nsIn K mainGlobals "sorted" = some none)
    (z_gcd : PySem.W.nsIn K mainGlobals "gcd" = some (some (.builtin "math.gcd")))
    (z_isinstance : PySem.W.nsIn K mainGlobals "isinstance" = some none)
    (z_bool : PySem.W.nsIn K mainGlobals "bool" = some none)
    : ∃ fd : FuncData, (∀ (s : Shared) (v : Value), BindsTo s fd ⟨[v], []⟩ [("script", v)]) ∧ ∀ base : Heap, K.In base → base.Ns mainGlobals mg → FnOk l.prog w K mg base CX0 4 fa fd ["script"] (sp_law K) := by
  have e := hfa.symm.trans (PySem.W.mg_of X G a14)
  cases e
  have F1 := fun_mk (st := s__law_state) l1 c1 k1
  have b1 := F1.binds (ps := ["script"]) fun _ _ _ _ _ _ us hl => match us, hl with | [_], _ => rfl
  have F2 := fun_mk (st := s__law_take) l2 c2 k2
  have b2 := F2.binds (ps := ["state", "m"]) fun _ _ _ _ _ _ us hl => match us, hl with | [_, _], _ => rfl
  have F3 := fun_mk (st := s__law_primes) l3 c3 k3
  have b3 := F3.binds (ps := ["n"]) fun _ _ _ _ _ _ us hl => match us, hl with | [_], _ => rfl
  have F4 := fun_mk (st := s_least_divisor) l4 c4 k4
  have b4 := F4.binds (ps := ["n", "start"]) fun _ _ _ _ _ _ us hl => match us, hl with | [_, _], _ => rfl
  have F5 := fun_mk (st := s_prime_powers) l5 c5 k5
  have b5 := F5.binds (ps := ["n"]) fun _ _ _ _ _ _ us hl => match us, hl with | [_], _ => rfl
  have F6 := fun_mk (st := s__law_power_of) l6 c6 k6
  have b6 := F6.binds (ps := ["p", "k"]) fun _ _ _ _ _ _ us hl => match us, hl with | [_, _], _ => rfl
  have F7 := fun_mk (st := s_moebius) l7 c7 k7
  have b7 := F7.binds (ps := ["n"]) fun _ _ _ _ _ _ us hl => match us, hl with | [_], _ => rfl
  have F8 := fun_mk (st := s_is_prime) l8 c8 k8
  have b8 := F8.binds (ps := ["n"]) fun _ _ _ _ _ _ us hl => match us, hl with | [_], _ => rfl
  have F9 := fun_mk (st := s_divisors) l9 c9 k9
  have b9 := F9.binds (ps := ["n"]) fun _ _ _ _ _ _ us hl => match us, hl with | [_], _ => rfl
  have F10 := fun_mk (st := s_cofactors) l10 c10 k10
  have b10 := F10.binds (ps := ["a", "b"]) fun _ _ _ _ _ _ us hl => match us, hl with | [_, _], _ => rfl
  have F11 := fun_mk (st := s__law_gcd) l11 c11 k11
  have b11 := F11.binds (ps := ["a", "b"]) fun _ _ _ _ _ _ us hl => match us, hl with | [_, _], _ => rfl
  have F12 := fun_mk (st := s_common) l12 c12 k12
  have b12 := F12.binds (ps := ["numbers"]) fun _ _ _ _ _ _ us hl => match us, hl with | [_], _ => rfl
  have F13 := fun_mk (st := s_is_integer) l13 c13 k13
  have b13 := F13.binds (ps := ["value"]) fun _ _ _ _ _ _ us hl => match us, hl with | [_], _ => rfl
  have F14 := fun_mk (st := s_law) l14 c14 k14
  have b14 := F14.binds (ps := ["script"]) fun _ _ _ _ _ _ us hl => match us, hl with | [_], _ => rfl
  have z_abs := PySem.W.mg_none_of X G z_abs
  have z_int := PySem.W.mg_none_of X G z_int
  have z_range := PySem.W.mg_none_of X G z_range
  have z_len := PySem.W.mg_none_of X G z_len
  have z_tuple := PySem.W.mg_none_of X G z_tuple
  have z_sorted := PySem.W.mg_none_of X G z_sorted
  have z_gcd := PySem.W.mg_of X G z_gcd
  have z_isinstance := PySem.W.mg_none_of X G z_isinstance
  have z_bool := PySem.W.mg_none_of X G z_bool
  refine ⟨PySem.W.fnOf "law" "law" (defArgs s_law) (defBody s_law) (defScope s_law) .none kV14 dc14 pm14 an14 cd14 ct14, fun s v => .of_eq rfl, fun base _ _ => ?_⟩
  have C__law_state : Cal l.prog w K mg base CX0 1 "_law_state" ["script"] (sp__law_state K) := ⟨f1, _, ok__law_state F1 z_abs z_int, PySem.W.mg_of X G a1, k1, b1⟩
  have C__law_take : Cal l.prog w K mg base CX0 1 "_law_take" ["state", "m"] (sp__law_take K) := ⟨f2, _, ok__law_take F2 z_int, PySem.W.mg_of X G a2, k2, b2⟩
  have C__law_primes : Cal l.prog w K mg base CX0 1 "_law_primes" ["n"] (sp__law_primes K) := ⟨f3, _, ok__law_primes F3 z_range z_len, PySem.W.mg_of X G a3, k3, b3⟩
  have C_least_divisor : Cal l.prog w K mg base CX0 1 "least_divisor" ["n", "start"] (sp_least_divisor K) := ⟨f4, _, ok_least_divisor F4 , PySem.W.mg_of X G a4, k4, b4⟩
  have C_prime_powers : Cal l.prog w K mg base CX0 2 "prime_powers" ["n"] (sp_prime_powers K) := ⟨f5, _, ok_prime_powers F5 z_tuple C_least_divisor, PySem.W.mg_of X G a5, k5, b5⟩
  have C__law_power_of : Cal l.prog w K mg base CX0 1 "_law_power_of" ["p", "k"] (sp__law_power_of K) := ⟨f6, _, ok__law_power_of F6 z_range, PySem.W.mg_of X G a6, k6, b6⟩
  have C_moebius : Cal l.prog w K mg base CX0 3 "moebius" ["n"] (sp_moebius K) := ⟨f7, _, ok_moebius F7 C_prime_powers, PySem.W.mg_of X G a7, k7, b7⟩
  have C_is_prime : Cal l.prog w K mg base CX0 2 "is_prime" ["n"] (sp_is_prime K) := ⟨f8, _, ok_is_prime F8 C_least_divisor, PySem.W.mg_of X G a8, k8, b8⟩
  have C_divisors : Cal l.prog w K mg base CX0 3 "divisors" ["n"] (sp_divisors K) := ⟨f9, _, ok_divisors F9 z_range z_sorted z_tuple C_prime_powers, PySem.W.mg_of X G a9, k9, b9⟩
  have C_cofactors : Cal l.prog w K mg base CX0 1 "cofactors" ["a", "b"] (sp_cofactors K) := ⟨f10, _, ok_cofactors F10 , PySem.W.mg_of X G a10, k10, b10⟩
  have C__law_gcd : Cal l.prog w K mg base CX0 1 "_law_gcd" ["a", "b"] (sp__law_gcd K) := ⟨f11, _, ok__law_gcd F11 z_abs z_int, PySem.W.mg_of X G a11, k11, b11⟩
  have C_common : Cal l.prog w K mg base CX0 1 "common" ["numbers"] (sp_common K) := ⟨f12, _, ok_common F12 z_gcd, PySem.W.mg_of X G a12, k12, b12⟩
  have C_common_2 : Cal l.prog w K mg base CX0 1 "common" ["numbers"] (sp_common_2 K) := ⟨f12, _, ok_common_2 F12 z_gcd, PySem.W.mg_of X G a12, k12, b12⟩
  have C_is_integer : Cal l.prog w K mg base CX0 1 "is_integer" ["value"] (sp_is_integer K) := ⟨f13, _, ok_is_integer F13 z_isinstance z_int z_bool, PySem.W.mg_of X G a13, k13, b13⟩
  exact ok_law F14 z_isinstance z_tuple z_range C__law_state C__law_take C__law_primes C_prime_powers C__law_power_of C_moebius C_is_prime C_divisors C_cofactors C__law_gcd C_common C_common_2 C_is_integer

end Pf
set_option Elab.async false
set_option linter.all false
set_option maxRecDepth 100000
namespace Pf
open PySem PySem.Spec PyProof.Rows L2 Mir
theorem state_ok (ns : List Int) : ∃ s t, m__law_state ns = .ok [s, t] := by
  obtain ⟨p, e⟩ := foldR_ok (f := m__law_state_b1) (fun s x => ⟨_, rfl⟩) (cutT ns none (some 63)) (0, 1)
  refine ⟨p.1, p.2, ?_⟩
  unfold m__law_state
  rw [e]
  rfl
theorem take_ok (s t m : Int) (h0 : 0 < m) (h1 : m < 1073741824) : ∃ v s' t', m__law_take [s, t] m = .ok (v, [s', t']) ∧ 0 ≤ v ∧ v < m := by
  by_cases hs : 0 < s
  · refine ⟨s % m, s / m, t, ?_, Int.emod_nonneg _ (by omega), Int.emod_lt_of_pos _ h0⟩
    have g : getL [s, t] 0 = .ok s := rfl
    have st : setL [s, t] 0 (s / m) = .ok [s / m, t] := rfl
    simp only [m__law_take, g, st, R.bind_ok, hs, decide_true, if_true, grd_ok h0, grd_ok (show CDiv s m from ⟨h0, h1⟩)]
  · refine ⟨(t * 48271 + 11) % 2147483647 / 7 % m, s, (t * 48271 + 11) % 2147483647, ?_, Int.emod_nonneg _ (by omega), Int.emod_lt_of_pos _ h0⟩
    have g : getL [s, t] 0 = .ok s := rfl
    have g1 : getL [s, t] 1 = .ok t := rfl
    have st : ∀ y, setL [s, t] 1 y = .ok [s, y] := fun y => rfl
    have g2 : ∀ y, getL [s, y] 1 = .ok y := fun y => rfl
    simp only [m__law_take, g, g1, g2, st, R.bind_ok, hs, decide_false, if_false, grd_ok h0, Bool.false_eq_true]
theorem gcd_ok (x y : Int) (h : y.natAbs < 100000) : m__law_gcd x y = .ok (pgcd x y) := by
  obtain ⟨s, e, ⟨i1, i2, i3⟩, c⟩ := whileR_inv (c := m__law_gcd_b1) (f := m__law_gcd_b2) (fun s : Int × Int => 0 ≤ s.1 ∧ 0 ≤ s.2 ∧ pgcd s.1 s.2 = pgcd x y) (fun s => s.2.natAbs) (fun s hs => by
    obtain ⟨h1, h2, h3⟩ := hs
    by_cases e : s.2 = 0
    · right
      unfold m__law_gcd_b1
      rw [e]
      rfl
    · left
      have p : 0 < s.2 := by omega
      refine ⟨by unfold m__law_gcd_b1; rw [decide_eq_false e]; rfl, (s.2, s.1 % s.2), by unfold m__law_gcd_b2; exact grd_ok p, ⟨h2, Int.emod_nonneg _ e, ?_⟩, ?_⟩
      · rw [← h3]
        obtain ⟨m, hm⟩ := Int.eq_ofNat_of_zero_le h1
        obtain ⟨k, hk⟩ := Int.eq_ofNat_of_zero_le h2
        show pgcd s.2 (s.1 % s.2) = pgcd s.1 s.2
        rw [hm, hk]
        unfold pgcd
        rw [← Int.natCast_emod]
        simp only [Int.natAbs_natCast]
        rw [Nat.gcd_comm m k, Nat.gcd_rec k m, Nat.gcd_comm]
      · show (s.1 % s.2).natAbs < s.2.natAbs
        have a := Int.emod_nonneg s.1 e
        have b := Int.emod_lt_of_pos s.1 p
        omega) 100000 (pabs x, pabs y) ⟨by show 0 ≤ pabs x; unfold pabs; split <;> omega, by show 0 ≤ pabs y; unfold pabs; split <;> omega, by
      show pgcd (pabs x) (pabs y) = pgcd x y
      unfold pgcd pabs
      split <;> split <;> simp [Int.natAbs_neg]⟩ (by show (pabs y).natAbs < 100000; unfold pabs; split <;> omega)
  unfold m__law_gcd
  rw [e]
  have z : s.2 = 0 := by
    unfold m__law_gcd_b1 at c
    have c' := R.ok.inj c
    by_cases q : s.2 = 0
    · exact q
    · rw [decide_eq_false q] at c'
      cases c'
  show R.ok s.1 = _
  rw [← i3, z]
  unfold pgcd
  rw [show ((0 : Int)).natAbs = 0 from rfl, Nat.gcd_zero_right]
  congr 1
  omega
/-! ### the numbers up to 400, one by one -/
def sortedb : List Int → Bool
  | x :: y :: r => decide (x ≤ y) && sortedb (y :: r)
  | _ => true
theorem sortedb_le : ∀ {l : List Int}, sortedb l = true → l.Pairwise (· ≤ ·)
  | [], _ => .nil
  | [x], _ => List.pairwise_singleton _ _
  | x :: y :: r, h => by
    have h1 : decide (x ≤ y) = true ∧ sortedb (y :: r) = true := Bool.and_eq_true_iff.mp h
    have p := sortedb_le h1.2
    refine List.pairwise_cons.mpr ⟨fun z hz => ?_, p⟩
    rcases List.mem_cons.mp hz with rfl | hz
    · exact of_decide_eq_true h1.1
    · exact Int.le_trans (of_decide_eq_true h1.1) ((List.pairwise_cons.mp p).1 z hz)
def divs (n : Int) : R (List Int) := (m_prime_powers n).bind fun t => foldR m_divisors_b3 [1] t
def chk (v : Int) : Bool := match m__law_primes (1 + v), m_prime_powers (1 + v), m_moebius (1 + v), divs (1 + v), foldR (m_law_b3 (v, [])) [] (rng 1 (1 + v + 1 - 1).toNat) with
  | .ok P, .ok PP, .ok sg, .ok D, .ok L => decide (loopR m_law_b1 (1, 1) PP = .ok (.dn (1 + v, sg))) && decide (foldR m_law_b2 [] PP = .ok P) && decide (m_is_prime (1 + v) = .ok (decide (P = [1 + v]))) && D.isPerm L && sortedb L
  | _, _, _, _, _ => false
theorem chk_all : (rng 0 400).all chk = true := by decide +kernel
end Pf
set_option Elab.async false
set_option linter.all false
set_option maxRecDepth 100000
namespace Pf
open PySem PySem.Spec PyProof.Rows L2 Mir
theorem fmod_neg_bounds (g r : Int) (h : r < 0) : g.fmod r ≤ 0 ∧ r < g.fmod r := by
  have e : Int.fmod g r = g % r + if 0 ≤ r ∨ r ∣ g then 0 else r := Int.fmod_eq_emod
  have a := Int.emod_nonneg g (show r ≠ 0 by omega)
  have b := Int.emod_lt g (show r ≠ 0 by omega)
  by_cases d : r ∣ g
  · rw [if_pos (.inr d)] at e
    have z : g % r = 0 := Int.emod_eq_zero_of_dvd d
    omega
  · rw [if_neg (by intro q; rcases q with q | q; omega; exact d q)] at e
    have z : g % r ≠ 0 := fun z => d (Int.dvd_of_emod_eq_zero z)
    omega
theorem fdiv_small {g r : Int} (hg : g.natAbs ≤ 100) (hr : r ≠ 0) : (Int.fdiv g r).natAbs ≤ 100 := by
  have h1 := Int.mul_fdiv_add_fmod g r
  have e1 : g = r * g.fdiv r + g.fmod r := h1.symm
  rcases Int.lt_or_gt_of_ne hr with h | h
  · obtain ⟨b1, b2⟩ := fmod_neg_bounds g r h
    generalize hq : g.fdiv r = q at *
    generalize g.fmod r = f at *
    by_cases c : q.natAbs ≤ 100
    · exact c
    · exfalso
      rcases Int.le_total 0 q with z | z
      · have : r * q ≤ -1 * q := Int.mul_le_mul_of_nonneg_right (by omega) z
        omega
      · obtain ⟨k, hk⟩ : ∃ k : Int, k = -q ∧ 101 ≤ k := ⟨-q, rfl, by omega⟩
        have e2 : r * q = (-r) * k := by rw [hk.1]; rw [Int.neg_mul_neg]
        have : (-r) * k = (-r - 1) * k + k := by rw [Int.sub_mul]; omega
        have p : 0 ≤ (-r - 1) * (k - 1) := Int.mul_nonneg (by omega) (by omega)
        have p2 : (-r - 1) * (k - 1) = (-r - 1) * k - (-r - 1) := by rw [Int.mul_sub]; omega
        omega
  · have b1 : 0 ≤ g.fmod r := Int.fmod_nonneg_of_pos _ h
    have b2 : g.fmod r < r := Int.fmod_lt_of_pos _ h
    generalize hq : g.fdiv r = q at *
    generalize g.fmod r = f at *
    by_cases c : q.natAbs ≤ 100
    · exact c
    · exfalso
      rcases Int.le_total 0 q with z | z
      · have : 1 * q ≤ r * q := Int.mul_le_mul_of_nonneg_right (by omega) z
        omega
      · obtain ⟨k, hk⟩ : ∃ k : Int, k = -q ∧ 101 ≤ k := ⟨-q, rfl, by omega⟩
        have e2 : r * q = -(r * k) := by rw [hk.1, Int.mul_neg]; omega
        have : r * k = (r - 1) * k + k := by rw [Int.sub_mul]; omega
        have p : 0 ≤ (r - 1) * (k - 1) := Int.mul_nonneg (by omega) (by omega)
        have p2 : (r - 1) * (k - 1) = (r - 1) * k - (r - 1) := by rw [Int.mul_sub]; omega
        omega
theorem pgcd_fmod (g r : Int) : pgcd r (g - Int.fdiv g r * r) = pgcd g r := by
  have e : g - Int.fdiv g r * r = g + r * (-(Int.fdiv g r)) := by
    rw [Int.mul_neg, Int.mul_comm r]
    omega
  rw [e]
  show ((Int.gcd r (g + r * (-(Int.fdiv g r))) : Nat) : Int) = (Int.gcd g r : Nat)
  rw [Int.gcd_add_mul_left_right, Int.gcd_comm]
theorem cof_ok (a b : Int) (ha : a.natAbs ≤ 100) (hb : b.natAbs ≤ 100) : ∃ u v, m_cofactors a b = .ok (pgcd a b, u, v) ∧ u * a + v * b = pgcd a b ∧ CMul u a ∧ CMul v b := by
  have cm : ∀ {x y : Int}, y.natAbs ≤ 100 → CMul x y := fun {x y} h => .inr ⟨by omega, by omega⟩
  obtain ⟨s, e, ⟨i1, i2, i3, i4, i5⟩, c⟩ := whileR_inv (c := m_cofactors_b1) (f := m_cofactors_b2)
    (fun s : Int × Int × Int × Int × Int × Int => pgcd s.1 s.2.2.2.1 = pgcd a b ∧ s.2.1 * a + s.2.2.1 * b = s.1 ∧ s.2.2.2.2.1 * a + s.2.2.2.2.2 * b = s.2.2.2.1 ∧ s.1.natAbs ≤ 100 ∧ s.2.2.2.1.natAbs ≤ 100) (fun s => s.2.2.2.1.natAbs) (fun s hs => by
    obtain ⟨g, u, v, r, ru, rv⟩ := s
    obtain ⟨h1, h2, h3, h4, h5⟩ := hs
    dsimp only at h1 h2 h3 h4 h5
    by_cases z : r = 0
    · right
      unfold m_cofactors_b1
      dsimp only
      rw [z]
      rfl
    · left
      refine ⟨by unfold m_cofactors_b1; dsimp only; rw [decide_eq_false z]; rfl, (r, ru, rv, g - Int.fdiv g r * r, u - Int.fdiv g r * ru, v - Int.fdiv g r * rv), ?_, ⟨?_, ?_, ?_, ?_, ?_⟩, ?_⟩
      · have q := fdiv_small h4 z
        unfold m_cofactors_b2
        dsimp only
        rw [grd_ok (show CDivN g r from ⟨z, by omega⟩), grd_ok (show CMul (Int.fdiv g r) r from .inl ⟨by omega, by omega⟩), grd_ok (show CMul (Int.fdiv g r) ru from .inl ⟨by omega, by omega⟩), grd_ok (show CMul (Int.fdiv g r) rv from .inl ⟨by omega, by omega⟩)]
      · dsimp only
        rw [pgcd_fmod]
        exact h1
      · exact h3
      · dsimp only
        rw [Int.sub_mul, Int.sub_mul, Int.mul_assoc, Int.mul_assoc, ← h2, ← h3]
        rw [h2]
        rw [Int.mul_add]
        omega
      · exact h5
      · dsimp only
        have e1 : g - Int.fdiv g r * r = g.fmod r := by
          have := Int.mul_fdiv_add_fmod g r
          rw [Int.mul_comm] at this
          omega
        rw [e1]
        rcases Int.lt_or_gt_of_ne z with h | h
        · obtain ⟨b1, b2⟩ := fmod_neg_bounds g r h
          omega
        · have b1 : 0 ≤ g.fmod r := Int.fmod_nonneg_of_pos _ h
          have b2 : g.fmod r < r := Int.fmod_lt_of_pos _ h
          omega
      · dsimp only
        have e1 : g - Int.fdiv g r * r = g.fmod r := by
          have := Int.mul_fdiv_add_fmod g r
          rw [Int.mul_comm] at this
          omega
        rw [e1]
        rcases Int.lt_or_gt_of_ne z with h | h
        · obtain ⟨b1, b2⟩ := fmod_neg_bounds g r h
          omega
        · have b1 : 0 ≤ g.fmod r := Int.fmod_nonneg_of_pos _ h
          have b2 : g.fmod r < r := Int.fmod_lt_of_pos _ h
          omega) 100000 (a, 1, 0, b, 0, 1) ⟨rfl, by show 1 * a + 0 * b = a; omega, by show 0 * a + 1 * b = b; omega, ha, hb⟩ (by show b.natAbs < 100000; omega)
  obtain ⟨g, u, v, r, ru, rv⟩ := s
  dsimp only at i1 i2 i3 i4 i5
  have z : r = 0 := by
    unfold m_cofactors_b1 at c
    have c' := R.ok.inj c
    by_cases q : r = 0
    · exact q
    · dsimp only at c'
      rw [decide_eq_false q] at c'
      cases c'
  have gg : ((g.natAbs : Nat) : Int) = pgcd a b := by
    rw [← i1, z]
    unfold pgcd
    rw [show ((0 : Int)).natAbs = 0 from rfl, Nat.gcd_zero_right]
  unfold m_cofactors
  rw [e]
  show ∃ u' v', (if decide (g < 0) = true then R.ok (-g, -u, -v) else R.ok (g, u, v)) = _ ∧ _
  by_cases n : g < 0
  · rw [decide_eq_true n, if_pos rfl]
    have eg : -g = pgcd a b := by omega
    exact ⟨-u, -v, by rw [eg], by rw [Int.neg_mul, Int.neg_mul]; omega, cm ha, cm hb⟩
  · rw [decide_eq_false n, if_neg (by decide)]
    have eg : g = pgcd a b := by omega
    exact ⟨u, v, by rw [eg], by omega, cm ha, cm hb⟩
theorem pgcd_le {x y : Int} (hx : x.natAbs ≤ 100) (hy : y.natAbs ≤ 100) : (pgcd x y).natAbs ≤ 100 := by
  show ((Nat.gcd x.natAbs y.natAbs : Nat) : Int).natAbs ≤ 100
  rw [Int.natAbs_natCast]
  by_cases h : 0 < x.natAbs
  · exact Nat.le_trans (Nat.gcd_le_left _ h) hx
  · rw [show x.natAbs = 0 by omega, Nat.gcd_zero_left]
    exact hy
theorem b5_ok {s x : Int} (hx : x.natAbs ≤ 100) : m_law_b5 s x = .ok (pgcd s x) := by
  unfold m_law_b5
  rw [gcd_ok s x (by omega)]
  rfl
theorem fold_common : ∀ (xs : List Int) (s : Int), (∀ x ∈ xs, x.natAbs ≤ 100) → foldR m_law_b5 s xs = .ok (xs.foldl pgcd s)
  | [], s, _ => rfl
  | x :: xs, s, h => by
    show (m_law_b5 s x).bind _ = _
    rw [b5_ok (h x List.mem_cons_self)]
    exact fold_common xs _ fun y hy => h y (List.mem_cons_of_mem _ hy)
theorem fold_common2 : ∀ (xs : List Int) (s : Int), foldR m_common_b1 s xs = .ok (xs.foldl pgcd s)
  | [], s => rfl
  | x :: xs, s => fold_common2 xs _
theorem common_ok (xs : List Int) : m_common xs = .ok (xs.foldl pgcd 0) := by
  unfold m_common
  rw [fold_common2]
  rfl
theorem common_ok2 (xs : List Int) : m_common_2 xs = .ok (xs.foldl pgcd 0) := by
  unfold m_common_2
  rw [show m_common_2_b1 = m_common_b1 from rfl, fold_common2]
  rfl
theorem foldl_pgcd_nonneg : ∀ (xs : List Int) (s : Int), 0 ≤ s → 0 ≤ xs.foldl pgcd s
  | [], s, h => h
  | x :: xs, s, h => foldl_pgcd_nonneg xs (pgcd s x) (by unfold pgcd; omega)
theorem common_zero (xs : List Int) : (xs ++ [0]).foldl pgcd 0 = xs.foldl pgcd 0 := by
  rw [List.foldl_append]
  have h := foldl_pgcd_nonneg xs 0 (Int.le_refl _)
  show pgcd (xs.foldl pgcd 0) 0 = _
  generalize xs.foldl pgcd 0 = z at *
  unfold pgcd
  rw [show ((0 : Int)).natAbs = 0 from rfl, Nat.gcd_zero_right]
  omega
theorem b4_ok (l : List Int) (s t : Int) (k : Int) (hl : l.length ≤ 10) : ∃ y s' t', m_law_b4 (l, [s, t]) k = .ok (l ++ [y], [s', t']) ∧ y.natAbs ≤ 100 := by
  obtain ⟨v, s', t', e, h0, h1⟩ := take_ok s t 61 (by decide) (by decide)
  refine ⟨v - 30, s', t', ?_, by omega⟩
  unfold m_law_b4
  dsimp only
  rw [e]
  show grd (lenLt l) _ = _
  rw [grd_ok (show lenLt l by unfold lenLt; have := sizeLine_eq; omega)]
theorem take4 : ∀ (n : Nat) (lo : Int) (l : List Int) (s t : Int), l.length + n ≤ 10 → (∀ x ∈ l, x.natAbs ≤ 100) → ∃ l' s' t', foldR m_law_b4 (l, [s, t]) (rng lo n) = .ok (l', [s', t']) ∧ l'.length = l.length + n ∧ ∀ x ∈ l', x.natAbs ≤ 100
  | 0, lo, l, s, t, _, h => ⟨l, s, t, rfl, rfl, h⟩
  | n + 1, lo, l, s, t, hn, h => by
    obtain ⟨y, s1, t1, e, hy⟩ := b4_ok l s t lo (by omega)
    obtain ⟨l', s', t', e', hl, hx⟩ := take4 n (lo + 1) (l ++ [y]) s1 t1 (by rw [List.length_append]; show l.length + 1 + n ≤ 10; omega) (fun x hx => by
      rcases List.mem_append.mp hx with hx | hx
      · exact h x hx
      · rw [List.mem_singleton.mp hx]
        exact hy)
    refine ⟨l', s', t', ?_, ?_, hx⟩
    · show (m_law_b4 (l, [s, t]) lo).bind _ = _
      rw [e]
      exact e'
    · rw [hl, List.length_append]
      show l.length + 1 + n = _
      omega
theorem ends : m_is_prime 0 = .ok false ∧ m_is_prime (-7) = .ok false ∧ m_is_prime 1 = .ok false := by decide +kernel
theorem is_ok (x : V) (h : scalV x = true) : m_is_integer x = .ok (isIntV x && !isBoolV x) := by
  unfold m_is_integer
  rw [grd_ok h, grd_ok h]
  unfold andR
  cases isIntV x <;> rfl
theorem law_true (ns : List Int) (hl : ns.length ≤ 63) : m_law ns = .ok true := by
  obtain ⟨s, t, e0⟩ := state_ok ns
  obtain ⟨v, s1, t1, e1, v0, v1⟩ := take_ok s t 400 (by decide) (by decide)
  obtain ⟨a, s2, t2, e2, a0, a1⟩ := take_ok s1 t1 121 (by decide) (by decide)
  obtain ⟨b, s3, t3, e3, b0, b1⟩ := take_ok s2 t2 121 (by decide) (by decide)
  obtain ⟨c, s4, t4, e4, c0, c1⟩ := take_ok s3 t3 4 (by decide) (by decide)
  have hv := List.all_eq_true.mp chk_all v (mem_rng v0 (by omega))
  unfold chk at hv
  cases q1 : m__law_primes (1 + v) with
  | er _ => rw [q1] at hv; cases hv
  | out => rw [q1] at hv; cases hv
  | ok P =>
  cases q2 : m_prime_powers (1 + v) with
  | er _ => rw [q1, q2] at hv; cases hv
  | out => rw [q1, q2] at hv; cases hv
  | ok PP =>
  cases q3 : m_moebius (1 + v) with
  | er _ => rw [q1, q2, q3] at hv; cases hv
  | out => rw [q1, q2, q3] at hv; cases hv
  | ok sg =>
  cases q4 : divs (1 + v) with
  | er _ => rw [q1, q2, q3, q4] at hv; cases hv
  | out => rw [q1, q2, q3, q4] at hv; cases hv
  | ok D =>
  cases q5 : foldR (m_law_b3 (v, [])) [] (rng 1 (1 + v + 1 - 1).toNat) with
  | er _ => rw [q1, q2, q3, q4, q5] at hv; cases hv
  | out => rw [q1, q2, q3, q4, q5] at hv; cases hv
  | ok L =>
  rw [q1, q2, q3, q4, q5] at hv
  simp only [Bool.and_eq_true, decide_eq_true_eq] at hv
  obtain ⟨⟨⟨⟨k1, k2⟩, k3⟩, k4⟩, k5⟩ := hv
  have k6 : m_divisors (1 + v) = .ok L := by
    have : m_divisors (1 + v) = (divs (1 + v)).bind fun s => R.ok (isort s) := rfl
    rw [this, q4]
    show R.ok (isort D) = _
    rw [sort_eq ((isort_perm D).trans (List.isPerm_iff.mp k4)) (isort_le D) (sortedb_le k5)]
  have k7 : foldR (m_law_b3 (v, [s1, t1])) [] (rng 1 (1 + v + 1 - 1).toNat) = .ok L := q5
  obtain ⟨u, w, f1, f2, f3, f4⟩ := cof_ok (a - 60) (b - 60) (by omega) (by omega)
  have f5 := gcd_ok (a - 60) (b - 60) (by omega)
  obtain ⟨l', s5, t5, e5, l5, x5⟩ := take4 c.toNat 0 [] s4 t4 (by simp; omega) (fun x hx => by cases hx)
  have xs : ∀ x ∈ [a - 60, b - 60] ++ l', x.natAbs ≤ 100 := fun x hx => by
    rcases List.mem_append.mp hx with hx | hx
    · rcases List.mem_cons.mp hx with rfl | hx
      · omega
      · rw [List.mem_singleton.mp hx]
        omega
    · exact x5 x hx
  have len : ([a - 60, b - 60] ++ l').length ≤ 20 := by
    rw [List.length_append, l5]
    show 2 + (0 + c.toNat) ≤ 20
    omega
  have g1 : lenOk ([a - 60, b - 60] ++ l') := by unfold lenOk; have := sizeLine_eq; omega
  have g2 : lenOk (([a - 60, b - 60] ++ l') ++ [(0 : Int)]) := by
    unfold lenOk
    rw [List.length_append]
    have := sizeLine_eq
    show _ + 1 ≤ _
    omega
  have h1 := fold_common _ 0 xs
  have h2 := common_ok ([a - 60, b - 60] ++ l')
  have h3 := common_ok2 (([a - 60, b - 60] ++ l') ++ [0])
  rw [common_zero] at h3
  have h4 : m_common [] = .ok 0 := rfl
  obtain ⟨z1, z2, z3⟩ := ends
  unfold m_law
  rw [e0]
  simp only [R.bind_ok]
  rw [e1]
  simp only [R.bind_ok]
  rw [q1]
  simp only [R.bind_ok]
  rw [q2]
  simp only [R.bind_ok]
  rw [k1]
  simp only [R.bind_ok, Le.thn]
  rw [k2]
  simp only [R.bind_ok, orR, andR, Bool.not_true, Bool.false_eq_true, if_false, decide_true, q3]
  rw [k3, k6]
  simp only [R.bind_ok, decide_true, Bool.not_true, Bool.false_eq_true, if_false]
  rw [grd_ok (show rg2Ok 1 (1 + v + 1) from ⟨by omega, by omega, by omega, by omega⟩), k7]
  simp only [R.bind_ok, decide_true, Bool.not_true, Bool.false_eq_true, if_false]
  rw [e2]
  simp only [R.bind_ok]
  rw [e3]
  simp only [R.bind_ok]
  rw [f1]
  simp only [R.bind_ok]
  rw [f5]
  simp only [R.bind_ok, decide_true, Bool.not_true, Bool.false_eq_true, if_false]
  rw [grd_ok f3, grd_ok f4, f2]
  simp only [R.bind_ok, decide_true, Bool.not_true, Bool.false_eq_true, if_false]
  rw [e4]
  simp only [R.bind_ok]
  rw [grd_ok (show rgOk c from ⟨by omega, by omega⟩), e5]
  simp only [R.bind_ok]
  rw [grd_ok g1, h1]
  simp only [R.bind_ok]
  rw [h2]
  simp only [R.bind_ok, decide_true, Bool.not_true, Bool.false_eq_true, if_false]
  rw [grd_ok g2, h3, h4]
  simp only [R.bind_ok, decide_true, Bool.not_true, Bool.false_eq_true, if_false]
  rw [z1, z2, z3, is_ok _ rfl, is_ok _ rfl, is_ok _ rfl]
  rfl
end Pf

open PySem PySem.W PyProof.Rows
set_option maxRecDepth 100000 in
set_option maxHeartbeats 0 in
theorem PySem.Challenge.cw_fieldmaps_k00_whole_numbers_holds : PySem.Challenge.rw_fieldmaps_k00_whole_numbers.Holds := by
  w_on; o_law; k_head; (case hw => w_witness2)
  k_fill
  refine L2.walk_of (l := PySem.Challenge.rw_fieldmaps_k00_whole_numbers) (n := 63) (k := 4) (x := "script") (CX := fun _ => L2.CX0) (sp := fun w => Pf.sp_law _) rfl (by decide) rfl ⟨rfl, by decide, by decide⟩ (fun w h Y => PySem.W.kIn_of Y) ?F (fun _ _ a ns hl _ hS => ⟨ns, a, rfl, ⟨_, hS, Mir.of_ints⟩, by rw [Pf.law_true ns hl]; exact fun _ _ => rfl⟩) (fun _ _ _ _ _ h => h)
  case F =>
    intro w mg fa h KX G hmg
    refine' Pf.all_mk KX G hmg ?a1 ?l1 ?c1 ?k1 ?a2 ?l2 ?c2 ?k2 ?a3 ?l3 ?c3 ?k3 ?a4 ?l4 ?c4 ?k4 ?a5 ?l5 ?c5 ?k5 ?a6 ?l6 ?c6 ?k6 ?a7 ?l7 ?c7 ?k7 ?a8 ?l8 ?c8 ?k8 ?a9 ?l9 ?c9 ?k9 ?a10 ?l10 ?c10 ?k10 ?a11 ?l11 ?c11 ?k11 ?a12 ?l12 ?c12 ?k12 ?a13 ?l13 ?c13 ?k13 ?a14 ?l14 ?c14 ?k14 ?z_abs ?z_int ?z_range ?z_len ?z_tuple ?z_sorted ?z_gcd ?z_isinstance ?z_bool
    (case a1 => k_is); (case l1 => k_is); (case c1 => k_is); (case k1 => k_is); (case a2 => k_is); (case l2 => k_is); (case c2 => k_is); (case k2 => k_is); (case a3 => k_is); (case l3 => k_is); (case c3 => k_is); (case k3 => k_is); (case a4 => k_is); (case l4 => k_is); (case c4 => k_is); (case k4 => k_is); (case a5 => k_is); (case l5 => k_is); (case c5 => k_is); (case k5 => k_is); (case a6 => k_is); (case l6 => k_is); (case c6 => k_is); (case k6 => k_is); (case a7 => k_is); (case l7 => k_is); (case c7 => k_is); (case k7 => k_is); (case a8 => k_is); (case l8 => k_is); (case c8 => k_is); (case k8 => k_is); (case a9 => k_is); (case l9 => k_is); (case c9 => k_is); (case k9 => k_is); (case a10 => k_is); (case l10 => k_is); (case c10 => k_is); (case k10 => k_is); (case a11 => k_is); (case l11 => k_is); (case c11 => k_is); (case k11 => k_is); (case a12 => k_is); (case l12 => k_is); (case c12 => k_is); (case k12 => k_is); (case a13 => k_is); (case l13 => k_is); (case c13 => k_is); (case k13 => k_is); (case a14 => k_is); (case l14 => k_is); (case c14 => k_is); (case k14 => k_is); (case z_abs => k_is); (case z_int => k_is); (case z_range => k_is); (case z_len => k_is); (case z_tuple => k_is); (case z_sorted => k_is); (case z_gcd => k_is); (case z_isinstance => k_is); (case z_bool => k_is)
