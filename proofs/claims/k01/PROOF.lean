import PyProof.Rows.All
import Wide.All
import OpenK.AllK
import Wide.FinOn
import HandS.Lambda
import HandS.Nested
import HandS.ForMost
import HandS.ForExc
import HandS.Style
import HandS.Gcd
import HandS.IsInst
import HandS.Wide
import HandS.SortInts
import HandS.ExcIs
import HandS.TryMany
import HandS.ExcField
import HandS.Walk
import HandS.Zip
import HandS.TupMul
import HandS.TupAny
import HandS.RevRange
import KE.GoesMore
import KE.KNestM
import KE.KLam
import HandS.EndTab
import PySem.Challenge.RW_fieldmaps_k01_powers_modulo
set_option Elab.async false
set_option linter.all false
set_option maxRecDepth 100000
namespace Mir
open PySem PySem.Spec PyProof.Rows L2

/-! ### results of the mirrors -/
inductive Er where
  | zd | mal | refu (r : Str) | nt (i : Int)
  deriving DecidableEq
inductive R (α : Type) where
  | ok (a : α) | er (e : Er) | out
  deriving DecidableEq
@[inline] def R.bind {α β : Type} (m : R α) (f : α → R β) : R β := match m with
  | .ok a => f a
  | .er e => .er e
  | .out => .out
@[simp] theorem R.bind_ok {α β : Type} (a : α) (f : α → R β) : (R.ok a).bind f = f a := rfl
@[simp] theorem R.bind_er {α β : Type} (e : Er) (f : α → R β) : (R.er e : R α).bind f = .er e := rfl
@[simp] theorem R.bind_out {α β : Type} (f : α → R β) : (R.out : R α).bind f = .out := rfl
/-- where a test does not hold, nothing is said -/
@[irreducible] def grd (c : Prop) [Decidable c] {α : Type} (m : R α) : R α := if c then m else .out
def wp {α : Type} (m : R α) (P : α → Prop) (E : Er → Prop) : Prop := match m with
  | .ok a => P a
  | .er e => E e
  | .out => False
section
variable {α β : Type} {P : α → Prop} {Q : β → Prop} {E : Er → Prop}
theorem wp_bind {m : R α} {f : α → R β} (h : wp (m.bind f) Q E) : wp m (fun a => wp (f a) Q E) E := by
  cases m <;> exact h
theorem wp_bind' {m : R α} {f : α → R β} (h : wp m (fun a => wp (f a) Q E) E) : wp (m.bind f) Q E := by
  cases m <;> exact h
theorem wp_imp {m : R α} {P' : α → Prop} {E' : Er → Prop} (h : wp m P E) (k : ∀ a, P a → P' a) (e : ∀ x, E x → E' x) : wp m P' E' := by
  cases m with
  | ok a => exact k a h
  | er x => exact e x h
  | out => exact h
theorem wp_grd {c : Prop} [Decidable c] {m : R α} (h : wp (grd c m) P E) : c ∧ wp m P E := by
  unfold grd at h
  by_cases hc : c
  · rw [if_pos hc] at h
    exact ⟨hc, h⟩
  · rw [if_neg hc] at h
    exact h.elim
theorem wp_ite {c : Prop} [Decidable c] {m n : R α} (h : wp (if c then m else n) P E) : (c → wp m P E) ∧ (¬ c → wp n P E) :=
  ⟨fun hc => by rw [if_pos hc] at h; exact h, fun hc => by rw [if_neg hc] at h; exact h⟩
end
/-! ### loops -/
def foldR {σ α : Type} (f : σ → α → R σ) : σ → List α → R σ
  | s, [] => .ok s
  | s, x :: xs => (f s x).bind fun s' => foldR f s' xs
/-- a turn's end -/
inductive Lp (σ ρ : Type) where
  | nx (s : σ) | bk (s : σ) | rt (r : ρ)
  deriving DecidableEq
inductive Le (σ ρ : Type) where
  | dn (s : σ) | rt (r : ρ)
  deriving DecidableEq
def loopR {σ ρ α : Type} (f : σ → α → R (Lp σ ρ)) : σ → List α → R (Le σ ρ)
  | s, [] => .ok (.dn s)
  | s, x :: xs => (f s x).bind fun o => match o with
    | .nx s' => loopR f s' xs
    | .bk s' => .ok (.dn s')
    | .rt r => .ok (.rt r)
def whileR {σ : Type} (c : σ → R Bool) (f : σ → R σ) : Nat → σ → R σ
  | 0, _ => .out
  | n + 1, s => (c s).bind fun b => if b = true then (f s).bind fun s' => whileR c f n s' else .ok s
def whileL {σ ρ : Type} (c : σ → R Bool) (f : σ → R (Lp σ ρ)) : Nat → σ → R (Le σ ρ)
  | 0, _ => .out
  | n + 1, s => (c s).bind fun b => if b = true then (f s).bind fun o => match o with
    | .nx s' => whileL c f n s'
    | .bk s' => .ok (.dn s')
    | .rt r => .ok (.rt r) else .ok (.dn s)
/-- behind a loop that may be left by return -/
def Le.thn {σ ρ τ : Type} (o : Le σ ρ) (k : σ → R τ) (ret : ρ → R τ) : R τ := match o with
  | .dn s => k s
  | .rt r => ret r
/-- what is wanted behind a turn -/
def lpP {σ ρ : Type} (nx bk : σ → Prop) (rt : ρ → Prop) : Lp σ ρ → Prop
  | .nx s => nx s
  | .bk s => bk s
  | .rt r => rt r
def leP {σ ρ : Type} (dn : σ → Prop) (rt : ρ → Prop) : Le σ ρ → Prop
  | .dn s => dn s
  | .rt r => rt r
/-- the ints lo, lo + 1, .. -/
def rng (lo : Int) : Nat → List Int
  | 0 => []
  | n + 1 => lo :: rng (lo + 1) n
theorem rng_length (lo : Int) (n : Nat) : (rng lo n).length = n := by
  induction n generalizing lo with
  | zero => rfl
  | succ n ih => exact congrArg Nat.succ (ih (lo + 1))
theorem rng_drop (lo : Int) (n i : Nat) (h : i < n) : (rng lo n).drop i = (lo + i) :: (rng lo n).drop (i + 1) := by
  induction n generalizing lo i with
  | zero => omega
  | succ n ih =>
    cases i with
    | zero =>
      show lo :: rng (lo + 1) n = (lo + ((0 : Nat) : Int)) :: rng (lo + 1) n
      rw [show lo + ((0 : Nat) : Int) = lo by omega]
    | succ i =>
      have := ih (lo + 1) i (by omega)
      show (rng (lo + 1) n).drop i = (lo + ((i + 1 : Nat) : Int)) :: (rng (lo + 1) n).drop (i + 1)
      rw [this]
      rw [show lo + 1 + (i : Int) = lo + ((i + 1 : Nat) : Int) by omega]

/-! ### ints -/
def pabs (i : Int) : Int := if i < 0 then -i else i
/-! ### heaps -/
/-- how the lambdas of a program are called, by their places; which attributes are the last that a class gives its objects -/
class Nm where
  nm : Nat → Nat → Str
  last : Str → Bool
variable [Nm]
open Classical in
/-- the kinds of objects that change; an instance changes till it has its last attribute -/
noncomputable def kd : HO → Nat
  | .lst _ => 1
  | .dK _ => 2
  | .dT _ => 3
  | .set _ _ => 4
  | .tbl _ => 9
  | .ext φ => if (∃ c q, HO.ext φ = LamX.CodeO c q) then 0 else 6
  | .ins _ _ fs => match fs.getLast? with
    | some (f, _) => if Nm.last f then 0 else 5
    | none => 5
  | _ => 0
theorem kd_code {c : Addr} {q : Str} : kd (LamX.CodeO c q) = 0 := by
  unfold kd LamX.CodeO
  exact if_pos ⟨c, q, rfl⟩
/-- all is as it was, but what changes at A; that is still of its kind -/
structure Gr (A : List Addr) (H H' : Hp) : Prop where
  ob : ∀ b o, H b = some o → ∃ o', H' b = some o' ∧ (o' = o ∨ (b ∈ A ∧ kd o ≠ 0 ∧ kd o' = kd o) ∨ (kd o = 9 ∧ kd o' = 9))
  tb : ∀ P, NdefX.TabN H P Nm.nm → NdefX.TabN H' P Nm.nm
theorem Gr.to {A : List Addr} {H H' : Hp} {b : Addr} {o : HO} (g : Gr A H H') (h : H b = some o) (n : b ∈ A → kd o = 0) (t : kd o ≠ 9) : H' b = some o := by
  obtain ⟨o', h1, h2⟩ := g.ob b o h
  rcases h2 with rfl | ⟨m, k, _⟩ | ⟨k, _⟩
  · exact h1
  · exact absurd (n m) k
  · exact absurd k t
theorem Gr.refl {A : List Addr} (H : Hp) : Gr A H H := ⟨fun _ o h => ⟨o, h, .inl rfl⟩, fun _ h => h⟩
theorem gr_two {A A0 : List Addr} {c : Addr} {o o1 o2 : HO} (n : c ∈ A → c ∈ A0) (e1 : o1 = o ∨ (c ∈ A0 ∧ kd o ≠ 0 ∧ kd o1 = kd o) ∨ (kd o = 9 ∧ kd o1 = 9)) (e2 : o2 = o1 ∨ (c ∈ A ∧ kd o1 ≠ 0 ∧ kd o2 = kd o1) ∨ (kd o1 = 9 ∧ kd o2 = 9)) : o2 = o ∨ (c ∈ A0 ∧ kd o ≠ 0 ∧ kd o2 = kd o) ∨ (kd o = 9 ∧ kd o2 = 9) := by
  rcases e1 with rfl | ⟨m, k, q⟩ | ⟨k, q⟩
  · rcases e2 with rfl | ⟨m, k, q⟩ | z
    · exact .inl rfl
    · exact .inr (.inl ⟨n m, k, q⟩)
    · exact .inr (.inr z)
  · rcases e2 with rfl | ⟨_, _, q2⟩ | ⟨k1, k2⟩
    · exact .inr (.inl ⟨m, k, q⟩)
    · exact .inr (.inl ⟨m, k, q2.trans q⟩)
    · exact .inr (.inr ⟨q.symm.trans k1, k2⟩)
  · rcases e2 with rfl | ⟨_, _, q2⟩ | ⟨_, k2⟩
    · exact .inr (.inr ⟨k, q⟩)
    · exact .inr (.inr ⟨k, q2.trans q⟩)
    · exact .inr (.inr ⟨k, k2⟩)
theorem Gr.trans {A : List Addr} {H H1 H2 : Hp} (a : Gr A H H1) (b : Gr A H1 H2) : Gr A H H2 := ⟨fun c o h => by
  obtain ⟨o1, h1, e1⟩ := a.ob c o h
  obtain ⟨o2, h2, e2⟩ := b.ob c o1 h1
  exact ⟨o2, h2, gr_two id e1 e2⟩, fun P h => b.tb P (a.tb P h)⟩
theorem Gr.same {H H1 : Hp} (a : Same H H1) : Gr [] H H1 := ⟨fun c o h => ⟨o, a c o h, .inl rfl⟩, fun _ h => h.ext a⟩
theorem Gr.mono {A B : List Addr} {H H1 : Hp} (a : Gr A H H1) (s : ∀ x ∈ A, x ∈ B) : Gr B H H1 := ⟨fun c o h =>
  let ⟨o', h1, h2⟩ := a.ob c o h
  ⟨o', h1, h2.imp id fun z => z.imp (fun ⟨m, k⟩ => ⟨s c m, k⟩) id⟩, a.tb⟩
theorem Gr.of0 {B : List Addr} {H H1 : Hp} (a : Gr [] H H1) : Gr B H H1 := a.mono fun _ z => absurd z (by simp)
theorem Gr.of0' {B : List Addr} {H H1 H2 : Hp} (a : Gr B H H1) (b : Gr [] H1 H2) : Gr B H H2 := a.trans b.of0
/-- some changed objects at once; those that are new since H don't count -/
theorem Gr.many {A A0 : List Addr} {H0 H H' : Hp} (a : Gr A0 H0 H) (n : ∀ p ∈ A, p ∈ A0 ∨ H0 p = none) (b : Gr A H H') : Gr A0 H0 H' := ⟨fun c o h => by
  obtain ⟨o1, h1, e1⟩ := a.ob c o h
  obtain ⟨o2, h2, e2⟩ := b.ob c o1 h1
  exact ⟨o2, h2, gr_two (fun m => (n c m).elim id fun z => by
      rw [z] at h
      cases h) e1 e2⟩, fun P h => b.tb P (a.tb P h)⟩
/-- a change at an address that is new since H -/
theorem Gr.loc {A : List Addr} {p : Addr} {H H1 H2 : Hp} (a : Gr A H H1) (n : H p = none) (b : Gr [p] H1 H2) : Gr A H H2 := a.many (fun q m => .inr (by
  have e : q = p := by simpa using m
  exact e ▸ n)) b
theorem Gr.at1 {A : List Addr} {p : Addr} {H H1 H2 : Hp} (a : Gr A H H1) (m : p ∈ A) (b : Gr [p] H1 H2) : Gr A H H2 := a.trans (b.mono fun x z => by
  have e : x = p := by simpa using z
  exact e ▸ m)
theorem tabN_upd {nm : Nat → Nat → Str} {H : Hp} {p P : Addr} {o : HO} (n : ∀ u, H p = some u → (∀ ps, u ≠ .tbl ps) ∧ ∀ c q, u ≠ LamX.CodeO c q) (h : NdefX.TabN H P nm) : NdefX.TabN (upd H p o) P nm := by
  obtain ⟨ps, h1, h2, h3⟩ := h
  refine ⟨ps, ?_, h2, fun pos cv hc => ?_⟩
  · rw [upd_ne fun z => ?_]
    · exact h1
    · subst z
      exact (n _ h1).1 ps rfl
  · obtain ⟨c, e1, e2⟩ := h3 pos cv hc
    refine ⟨c, e1, ?_⟩
    rw [upd_ne fun z => ?_]
    · exact e2
    · subst z
      exact (n _ e2).2 c _ rfl
theorem Gr.new {A : List Addr} {H : Hp} {p : Addr} {o : HO} (n : H p = none) : Gr A H (upd H p o) := ⟨fun c u h => ⟨u, by
  rw [upd_ne (ne_of_none h n)]
  exact h, .inl rfl⟩, fun P h => tabN_upd (fun u z => by
    rw [n] at z
    cases z) h⟩
theorem Gr.setK {H : Hp} {p : Addr} {o o' : HO} (h : H p = some o') (k : kd o' ≠ 0) (t : kd o' ≠ 9) (e : kd o = kd o') : Gr [p] H (upd H p o) := ⟨fun c u q => by
  by_cases z : c = p
  · subst z
    rw [h] at q
    cases q
    exact ⟨o, upd_same, .inr (.inl ⟨by simp, k, e⟩)⟩
  · exact ⟨u, by rw [upd_ne z]; exact q, .inl rfl⟩, fun P hT => tabN_upd (fun u z => by
    rw [h] at z
    cases z
    refine ⟨fun ps e => ?_, fun c q e => ?_⟩
    · subst e
      exact t rfl
    · subst e
      exact k kd_code) hT⟩
theorem Gr.set {H : Hp} {p : Addr} {ys xs : List V} (h : H p = some (.lst xs)) : Gr [p] H (upd H p (.lst ys)) := Gr.setK h (by show 1 ≠ 0; decide) (by show 1 ≠ 9; decide) rfl
theorem Gr.free {A : List Addr} {H H' : Hp} (e : Gr A H H') {l : Addr} (h : H' l = Option.none) : H l = Option.none := by
  cases r : H l with
  | none => rfl
  | some o =>
    obtain ⟨o', h1, _⟩ := e.ob l o r
    rw [h] at h1
    cases h1
/-! ### what stands for a datum -/
abbrev Rp (α : Type) := Hp → α → V → Prop
/-- what never changes is as it was -/
def Im (H H' : Hp) : Prop := ∀ b o, H b = some o → kd o = 0 → H' b = some o
theorem Gr.im {A : List Addr} {H H' : Hp} (g : Gr A H H') : Im H H' := fun _ _ h k => g.to h (fun _ => k) (by rw [k]; decide)
class Imm {α : Type} (r : Rp α) : Prop where
  im : ∀ {H H' : Hp} {x : α} {v : V}, Im H H' → r H x v → r H' x v
theorem Imm.mono {α : Type} {r : Rp α} [Imm r] {A : List Addr} {H H' : Hp} {x : α} {v : V} (g : Gr A H H') (h : r H x v) : r H' x v := Imm.im g.im h
def rI : Rp Int := fun _ i v => v = .int i
def rB : Rp Bool := fun _ b v => v = .bl b
def rS : Rp Str := fun _ x v => v = .str x
def rN : Rp Unit := fun _ _ v => v = .non
instance : Imm rI := ⟨fun _ h => h⟩
instance : Imm rB := ⟨fun _ h => h⟩
instance : Imm rS := ⟨fun _ h => h⟩
instance : Imm rN := ⟨fun _ h => h⟩
def rO {α : Type} (r : Rp α) : Rp (Option α) := fun H o v => match o with
  | none => v = .non
  | some a => v ≠ .non ∧ r H a v
instance {α : Type} {r : Rp α} [Imm r] : Imm (rO r) := ⟨fun {H H' x v} g h => by
  cases x with
  | none => exact h
  | some a => exact ⟨h.1, Imm.im g h.2⟩⟩
theorem Paired.im {α : Type} {r : Rp α} [Imm r] {H H' : Hp} {xs : List α} {vs : List V} (g : Im H H') (h : Paired (r H) xs vs) : Paired (r H') xs vs := Paired.mapP h fun _ _ q => Imm.im g q
theorem Im.tup {K : PySem.W.Frag} {H H' : Hp} {a : Addr} {xs : List V} (g : Im H H') (h : SqT K H a xs) : SqT K H' a xs := by
  rcases h with (h | ⟨o, h⟩) | h
  · exact .inl (.inl (g _ _ h rfl))
  · exact .inl (.inr ⟨o, g _ _ h rfl⟩)
  · exact .inr h
theorem Paired.imm {α : Type} {r : Rp α} [Imm r] {A : List Addr} {H H' : Hp} {xs : List α} {vs : List V} (g : Gr A H H') (h : Paired (r H) xs vs) : Paired (r H') xs vs := Paired.mapP h fun _ _ q => Imm.mono g q
def Ls {α : Type} (r : Rp α) (H : Hp) (a : Addr) (xs : List α) : Prop := ∃ vs, H a = some (.lst vs) ∧ Paired (r H) xs vs
def Lq {α : Type} (K : PySem.W.Frag) (r : Rp α) (H : Hp) (a : Addr) (xs : List α) : Prop := ∃ vs, SqL K H a vs ∧ Paired (r H) xs vs
def Tq {α : Type} (K : PySem.W.Frag) (r : Rp α) (H : Hp) (a : Addr) (xs : List α) : Prop := ∃ vs, SqT K H a vs ∧ Paired (r H) xs vs
def rT {α : Type} (K : PySem.W.Frag) (r : Rp α) : Rp (List α) := fun H xs v => ∃ a, v = .ref a ∧ Tq K r H a xs
def rP {α β : Type} (K : PySem.W.Frag) (r : Rp α) (s : Rp β) : Rp (α × β) := fun H p v => ∃ a x y, v = .ref a ∧ SqT K H a [x, y] ∧ r H p.1 x ∧ s H p.2 y
def rP3 {α β γ : Type} (K : PySem.W.Frag) (r : Rp α) (s : Rp β) (t : Rp γ) : Rp (α × β × γ) := fun H p v => ∃ a x y z, v = .ref a ∧ SqT K H a [x, y, z] ∧ r H p.1 x ∧ s H p.2.1 y ∧ t H p.2.2 z
theorem Gr.tup {K : PySem.W.Frag} {A : List Addr} {H H' : Hp} {a : Addr} {xs : List V} (g : Gr A H H') (h : SqT K H a xs) : SqT K H' a xs := by
  rcases h with (h | ⟨o, h⟩) | h
  · exact .inl (.inl (g.to h (fun _ => rfl) nofun))
  · exact .inl (.inr ⟨o, g.to h (fun _ => rfl) nofun⟩)
  · exact .inr h
theorem Gr.lst {K : PySem.W.Frag} {A : List Addr} {H H' : Hp} {a : Addr} {xs : List V} (g : Gr A H H') (n : a ∉ A) (h : SqL K H a xs) : SqL K H' a xs := by
  rcases h with (h | ⟨o, h⟩) | h
  · exact .inl (.inl (g.to h (fun m => absurd m n) nofun))
  · exact .inl (.inr ⟨o, g.to h (fun _ => rfl) nofun⟩)
  · exact .inr h
section
variable {α β γ : Type} {K : PySem.W.Frag} {r : Rp α} {s : Rp β} {t : Rp γ} {A : List Addr} {H H' : Hp} {a p : Addr} {xs : List α}
theorem Tq.mono [Imm r] (g : Gr A H H') (h : Tq K r H a xs) : Tq K r H' a xs := let ⟨vs, h1, h2⟩ := h; ⟨vs, g.tup h1, Paired.imm g h2⟩
instance [Imm r] : Imm (rT K r) := ⟨fun g ⟨a, e, vs, h1, h2⟩ => ⟨a, e, vs, g.tup h1, Paired.im g h2⟩⟩
instance [Imm r] [Imm s] : Imm (rP K r s) := ⟨fun g ⟨a, x, y, e, h, h1, h2⟩ => ⟨a, x, y, e, g.tup h, Imm.im g h1, Imm.im g h2⟩⟩
instance [Imm r] [Imm s] [Imm t] : Imm (rP3 K r s t) := ⟨fun g ⟨a, x, y, z, e, h, h1, h2, h3⟩ => ⟨a, x, y, z, e, g.tup h, Imm.im g h1, Imm.im g h2, Imm.im g h3⟩⟩
theorem Ls.q (h : Ls r H a xs) : Lq K r H a xs := let ⟨vs, h1, h2⟩ := h; ⟨vs, SqL.of h1, h2⟩
theorem Ls.g0 [Imm r] (g : Gr [] H H') (h : Ls r H a xs) : Ls r H' a xs := let ⟨vs, h1, h2⟩ := h; ⟨vs, g.to h1 (fun m => absurd m (by simp)) nofun, Paired.imm g h2⟩
theorem Ls.g1 [Imm r] (g : Gr [p] H H') (n : a ≠ p) (h : Ls r H a xs) : Ls r H' a xs := let ⟨vs, h1, h2⟩ := h; ⟨vs, g.to h1 (fun m => absurd (by simpa using m) n) nofun, Paired.imm g h2⟩
theorem Ls.gA [Imm r] (g : Gr A H H') (n : a ∉ A) (h : Ls r H a xs) : Ls r H' a xs := let ⟨vs, h1, h2⟩ := h; ⟨vs, g.to h1 (fun m => absurd m n) nofun, Paired.imm g h2⟩
theorem Lq.g0 [Imm r] (g : Gr [] H H') (h : Lq K r H a xs) : Lq K r H' a xs := let ⟨vs, h1, h2⟩ := h; ⟨vs, g.lst (by simp) h1, Paired.imm g h2⟩
theorem Lq.gA [Imm r] (g : Gr A H H') (n : a ∉ A) (h : Lq K r H a xs) : Lq K r H' a xs := let ⟨vs, h1, h2⟩ := h; ⟨vs, g.lst n h1, Paired.imm g h2⟩
theorem Ls.ne (h : Ls r H a xs) (n : H p = none) : a ≠ p := let ⟨_, h1, _⟩ := h; ne_of_none h1 n
theorem Ls.some (h : Ls r H a xs) : ∃ vs, H a = some (.lst vs) := let ⟨vs, h1, _⟩ := h; ⟨vs, h1⟩
/-! ### displays, items, changes -/
variable {Q : VK} {E : Er → Prop}
/-- a new tuple, a new list -/
def aTup (xs : List V) (H : Hp) (Q : VK) : Prop := xs.length ≤ sizeLine ∧ ∀ p, H p = none → Q (.ref p) (upd H p (.tup xs))
def aLst (xs : List V) (H : Hp) (Q : VK) : Prop := xs.length ≤ sizeLine ∧ ∀ p, H p = none → Q (.ref p) (upd H p (.lst xs))
/-- a call's reading, held together -/
def ap3 (r : List V → Hp → VK → Prop) (vs : List V) (H : Hp) (Q : VK) : Prop := r vs H Q
theorem mk_P [Imm r] [Imm s] {x y : V} {a : α} {b : β} (hx : r H a x) (hy : s H b y) (q : ∀ v H', Gr [] H H' → rP K r s H' (a, b) v → Q v H') : aTup [x, y] H Q :=
  ⟨by show 2 ≤ sizeLine; decide, fun p n => q _ _ (Gr.new n) ⟨p, x, y, rfl, SqT.of upd_same, Imm.mono (Gr.new (A := []) n) hx, Imm.mono (Gr.new (A := []) n) hy⟩⟩
theorem mk_P3 [Imm r] [Imm s] [Imm t] {x y z : V} {a : α} {b : β} {c : γ} (hx : r H a x) (hy : s H b y) (hz : t H c z) (q : ∀ v H', Gr [] H H' → rP3 K r s t H' (a, b, c) v → Q v H') : aTup [x, y, z] H Q :=
  ⟨by show 3 ≤ sizeLine; decide, fun p n => q _ _ (Gr.new n) ⟨p, x, y, z, rfl, SqT.of upd_same, Imm.mono (Gr.new (A := []) n) hx, Imm.mono (Gr.new (A := []) n) hy, Imm.mono (Gr.new (A := []) n) hz⟩⟩
theorem mk_T [Imm r] {vs : List V} (h : Paired (r H) xs vs) (l : vs.length ≤ sizeLine) (q : ∀ v H', Gr [] H H' → rT K r H' xs v → Q v H') : aTup vs H Q :=
  ⟨l, fun p n => q _ _ (Gr.new n) ⟨p, rfl, vs, SqT.of upd_same, Paired.imm (Gr.new (A := []) n) h⟩⟩
theorem mk_L [Imm r] {vs : List V} (h : Paired (r H) xs vs) (l : vs.length ≤ sizeLine) (q : ∀ p H', H p = none → Gr [] H H' → Ls r H' p xs → Q (.ref p) H') : aLst vs H Q :=
  ⟨l, fun p n => q _ _ n (Gr.new n) ⟨vs, upd_same, Paired.imm (Gr.new (A := []) n) h⟩⟩
def lenOk {α : Type} (xs : List α) : Prop := xs.length ≤ sizeLine
instance {α : Type} (xs : List α) : Decidable (lenOk xs) := inferInstanceAs (Decidable (_ ≤ _))
def lenLt {α : Type} (xs : List α) : Prop := xs.length < sizeLine
instance {α : Type} (xs : List α) : Decidable (lenLt xs) := inferInstanceAs (Decidable (_ < _))
theorem Paired.app {r : α → V → Prop} : ∀ {xs ys : List α} {vs ws : List V}, Paired r xs vs → Paired r ys ws → Paired r (xs ++ ys) (vs ++ ws)
  | _, _, _, _, .nil, s => s
  | _, _, _, _, .cons r t, s => .cons r (Paired.app t s)
theorem rd_append [Imm r] {y : V} {x : α} (h : Ls r H a xs) (hy : r H x y) (l : lenLt xs) (q : ∀ H', Gr [a] H H' → Ls r H' a (xs ++ [x]) → Q .non H') : rAppend (.ref a) [y] H Q := by
  obtain ⟨vs, h1, h2⟩ := h
  refine ⟨a, vs, y, rfl, rfl, h1, by rw [← Paired.length h2]; exact l, q _ (Gr.set h1) ⟨_, upd_same, ?_⟩⟩
  exact Paired.app (Paired.imm (Gr.set h1) h2) (.cons (Imm.mono (Gr.set h1) hy) .nil)
/-- an item by its place -/
def getL {α : Type} (xs : List α) (i : Int) : R α := match atI xs i with
  | some x => .ok x
  | none => .out
theorem Paired.at {r : α → V → Prop} : ∀ {xs : List α} {vs : List V} {i : Nat} {x : α}, Paired r xs vs → xs[i]? = some x → ∃ v, vs[i]? = some v ∧ r x v
  | _, _, _, _, .nil, e => by simp at e
  | _, _, 0, _, .cons h _, e => by
    simp at e
    subst e
    exact ⟨_, rfl, h⟩
  | _, _, i + 1, _, .cons _ t, e => by
    obtain ⟨v, h1, h2⟩ := Paired.at (i := i) t (by simpa using e)
    exact ⟨v, by simpa using h1, h2⟩
theorem getL_at {r : α → V → Prop} {vs : List V} {i : Int} {Z : α → Prop} (h : Paired r xs vs) (hm : wp (getL xs i) Z E) : ∃ x v, atI vs i = some v ∧ r x v ∧ Z x := by
  unfold getL at hm
  cases e : atI xs i with
  | none =>
    rw [e] at hm
    exact hm.elim
  | some x =>
    rw [e] at hm
    unfold atI at e
    cases e2 : ixN xs.length i with
    | none =>
      rw [e2] at e
      cases e
    | some j =>
      rw [e2] at e
      obtain ⟨v, h1, h2⟩ := Paired.at h (show xs[j]? = some x from e)
      refine ⟨x, v, ?_, h2, hm⟩
      unfold atI
      rw [← Paired.length h, e2]
      exact h1
theorem ix_L {i : Int} {Z : α → Prop} (h : Lq K r H a xs) (hm : wp (getL xs i) Z E) (q : ∀ x v, r H x v → Z x → Q v H) : rIxL K (.ref a) (.int i) H Q := by
  obtain ⟨vs, h1, h2⟩ := h
  obtain ⟨x, v, e, hr, hz⟩ := getL_at h2 hm
  exact ⟨a, vs, i, v, rfl, rfl, h1, e, q x v hr hz⟩
theorem ix_T {i : Int} {Z : α → Prop} {v : V} (h : rT K r H xs v) (hm : wp (getL xs i) Z E) (q : ∀ x v, r H x v → Z x → Q v H) : rIxT K v (.int i) H Q := by
  obtain ⟨a, rfl, vs, h1, h2⟩ := h
  obtain ⟨x, v, e, hr, hz⟩ := getL_at h2 hm
  exact ⟨a, vs, i, v, rfl, rfl, h1, e, q x v hr hz⟩
/-- an item changed -/
def setL {α : Type} (xs : List α) (i : Int) (x : α) : R (List α) := match ixN xs.length i with
  | some j => .ok (xs.set j x)
  | none => .out
theorem Paired.set {r : α → V → Prop} {x : α} {v : V} (h : r x v) : ∀ {xs : List α} {vs : List V} (i : Nat), Paired r xs vs → Paired r (xs.set i x) (vs.set i v)
  | _, _, _, .nil => .nil
  | _, _, 0, .cons _ t => .cons h t
  | _, _, i + 1, .cons q t => .cons q (Paired.set h i t)
theorem rd_set [Imm r] {i : Int} {y : V} {x : α} {Z : List α → Prop} {Q : Hp → Prop} (h : Ls r H a xs) (hy : r H x y) (hm : wp (setL xs i x) Z E) (q : ∀ ys H', Gr [a] H H' → Ls r H' a ys → Z ys → Q H') : rSetL (.ref a) (.int i) y H Q := by
  obtain ⟨vs, h1, h2⟩ := h
  unfold setL at hm
  cases e : ixN xs.length i with
  | none =>
    rw [e] at hm
    exact hm.elim
  | some j =>
    rw [e] at hm
    exact ⟨a, vs, i, j, rfl, rfl, h1, by rw [← Paired.length h2]; exact e, q _ _ (Gr.set h1) ⟨_, upd_same, Paired.set (Imm.mono (Gr.set h1) hy) j (Paired.imm (Gr.set h1) h2)⟩ hm⟩
theorem cat_L [Imm r] {b : Addr} {ys : List α} (h : Ls r H a xs) (h' : Ls r H b ys) (l : lenOk (xs ++ ys)) (q : ∀ p H', H p = none → Gr [] H H' → Ls r H' p (xs ++ ys) → Q (.ref p) H') : rCat (.ref a) (.ref b) H Q := by
  obtain ⟨vs, h1, h2⟩ := h
  obtain ⟨ws, h3, h4⟩ := h'
  refine ⟨a, b, vs, ws, rfl, rfl, h1, h3, ?_, fun p n => q _ _ n (Gr.new n) ⟨_, upd_same, Paired.app (Paired.imm (Gr.new (A := []) n) h2) (Paired.imm (Gr.new (A := []) n) h4)⟩⟩
  rw [← Paired.length h2, ← Paired.length h4, ← List.length_append]
  exact l
theorem len_L (h : Lq K r H a xs) (q : Q (.int xs.length) H) : ap3 (fun vs H Q => ∃ p ys, vs = [V.ref p] ∧ (SqL K H p ys ∨ SqT K H p ys) ∧ Q (.int ys.length) H) [.ref a] H Q := by
  obtain ⟨vs, h1, h2⟩ := h
  exact ⟨a, vs, rfl, .inl h1, by rw [← Paired.length h2]; exact q⟩
theorem len_T {v : V} (h : rT K r H xs v) (q : Q (.int xs.length) H) : ap3 (fun vs H Q => ∃ p ys, vs = [V.ref p] ∧ (SqL K H p ys ∨ SqT K H p ys) ∧ Q (.int ys.length) H) [v] H Q := by
  obtain ⟨a, rfl, vs, h1, h2⟩ := h
  exact ⟨a, vs, rfl, .inr h1, by rw [← Paired.length h2]; exact q⟩
theorem tup_of_L [Imm r] (h : Lq K r H a xs) (q : ∀ v H', Gr [] H H' → rT K r H' xs v → Q v H') : ap3 (fun vs H Q => ∃ p ys, vs = [V.ref p] ∧ ((SqL K H p ys ∧ ∀ l, H l = none → Q (.ref l) (upd H l (.tup ys))) ∨ (SqT K H p ys ∧ Q (.ref p) H))) [.ref a] H Q := by
  obtain ⟨vs, h1, h2⟩ := h
  exact ⟨a, vs, rfl, .inl ⟨h1, fun l n => q _ _ (Gr.new n) ⟨l, rfl, vs, SqT.of upd_same, Paired.imm (Gr.new (A := []) n) h2⟩⟩⟩
theorem lst_of_L [Imm r] (h : Lq K r H a xs) (q : ∀ p H', H p = none → Gr [] H H' → Ls r H' p xs → Q (.ref p) H') : ap3 (fun vs H Q => ∃ p ys, vs = [V.ref p] ∧ (SqL K H p ys ∨ SqT K H p ys) ∧ ∀ l, H l = none → Q (.ref l) (upd H l (.lst ys))) [.ref a] H Q := by
  obtain ⟨vs, h1, h2⟩ := h
  exact ⟨a, vs, rfl, .inl h1, fun l n => q _ _ n (Gr.new n) ⟨vs, upd_same, Paired.imm (Gr.new (A := []) n) h2⟩⟩
theorem lst_of_T [Imm r] {v : V} (h : rT K r H xs v) (q : ∀ p H', H p = none → Gr [] H H' → Ls r H' p xs → Q (.ref p) H') : ap3 (fun vs H Q => ∃ p ys, vs = [V.ref p] ∧ (SqL K H p ys ∨ SqT K H p ys) ∧ ∀ l, H l = none → Q (.ref l) (upd H l (.lst ys))) [v] H Q := by
  obtain ⟨a, rfl, vs, h1, h2⟩ := h
  exact ⟨a, vs, rfl, .inr h1, fun l n => q _ _ n (Gr.new n) ⟨vs, upd_same, Paired.imm (Gr.new (A := []) n) h2⟩⟩
theorem Paired.take {r : α → V → Prop} : ∀ {xs : List α} {vs : List V} (n : Nat), Paired r xs vs → Paired r (xs.take n) (vs.take n)
  | _, _, 0, _ => .nil
  | _, _, _ + 1, .nil => .nil
  | _, _, n + 1, .cons h t => .cons h (Paired.take n t)
theorem Paired.drop {r : α → V → Prop} : ∀ {xs : List α} {vs : List V} (n : Nat), Paired r xs vs → Paired r (xs.drop n) (vs.drop n)
  | _, _, 0, h => h
  | _, _, _ + 1, .nil => .nil
  | _, _, n + 1, .cons _ t => Paired.drop n t
def cutT {α : Type} (xs : List α) (lo hi : Option Int) : List α := (xs.drop (HT.sIx xs.length 0 lo)).take (HT.sIx xs.length xs.length hi - HT.sIx xs.length 0 lo)
theorem cut_L [Imm r] {lo hi : Option Int} (h : Lq K r H a xs) (q : ∀ p H', H p = none → Gr [] H H' → Ls r H' p (cutT xs lo hi) → Q (.ref p) H') : rSlL K (.ref a) lo hi H Q := by
  obtain ⟨vs, h1, h2⟩ := h
  refine ⟨a, vs, rfl, h1, fun p n => q _ _ n (Gr.new n) ⟨_, upd_same, Paired.imm (Gr.new (A := []) n) ?_⟩⟩
  unfold cutT cutV
  rw [← Paired.length h2]
  exact Paired.take _ (Paired.drop _ h2)
theorem ints_of {ns : List Int} {vs : List V} (h : Paired (rI H) ns vs) : vs = ns.map V.int := by
  induction h with
  | nil => rfl
  | cons h _ ih => rw [ih, show _ = V.int _ from h] <;> rfl
theorem of_ints {ns : List Int} : Paired (rI H) ns (ns.map V.int) := by
  induction ns with
  | nil => exact .nil
  | cons n ns ih => exact .cons rfl ih
def isort (ns : List Int) : List Int := ns.mergeSort fun a b => decide (a ≤ b)
theorem sort_eq {l m : List Int} (p : l.Perm m) (a : l.Pairwise (· ≤ ·)) (b : m.Pairwise (· ≤ ·)) : l = m := p.eq_of_pairwise (fun x y _ _ h1 h2 => by omega) a b
theorem isort_perm (ns : List Int) : (isort ns).Perm ns := List.mergeSort_perm ns _
theorem isort_le (ns : List Int) : (isort ns).Pairwise (· ≤ ·) := by
  have h := List.pairwise_mergeSort (le := fun a b : Int => decide (a ≤ b)) (fun a b c h1 h2 => by simp at *; omega) (fun a b => by simp; omega) ns
  exact h.imp fun h => by simpa using h
end

/-! ### turns of loops -/
section
variable {σt ρ α : Type} {E : Er → Prop} {g : TG} {tb : TS} {D : Ends} {σ : L2.St} {H : Hp} {K : PySem.W.Frag} {a : Addr} {lo : Int} {n : Nat} {r : Rp α} {xs : List α} {s0 : σt}
theorem Paired.get2 {r : α → V → Prop} : ∀ {l₁ : List α} {l₂ : List V} {i : Nat} {v : V}, Paired r l₁ l₂ → l₂[i]? = some v → ∀ h : i < l₁.length, r l₁[i] v
  | _, _, _, _, .nil, _, h => absurd h (Nat.not_lt_zero _)
  | _, _, 0, _, .cons p _, e, _ => Option.some.inj e ▸ p
  | _, _, i + 1, _, .cons _ t, e, h => Paired.get2 (i := i) t e (Nat.lt_of_succ_lt_succ h)
theorem foldR_step {f : σt → α → R σt} {s : σt} {i : Nat} (h : i < xs.length) {P : σt → Prop} (hw : wp (foldR f s (xs.drop i)) P E) : wp (f s xs[i]) (fun s' => wp (foldR f s' (xs.drop (i + 1))) P E) E := by
  rw [List.drop_eq_getElem_cons h] at hw
  exact wp_bind (m := f s xs[i]) (f := fun s' => foldR f s' (xs.drop (i + 1))) hw
theorem foldR_end {f : σt → α → R σt} {s : σt} {i : Nat} (h : xs.length ≤ i) {P : σt → Prop} (hw : wp (foldR f s (xs.drop i)) P E) : P s := by
  rw [List.drop_of_length_le h] at hw
  exact hw
theorem loopR_step {f : σt → α → R (Lp σt ρ)} {s : σt} {i : Nat} (h : i < xs.length) {dn : σt → Prop} {rt : ρ → Prop} (hw : wp (loopR f s (xs.drop i)) (leP dn rt) E) : wp (f s xs[i]) (lpP (fun s' => wp (loopR f s' (xs.drop (i + 1))) (leP dn rt) E) dn rt) E := by
  rw [List.drop_eq_getElem_cons h] at hw
  have hw := wp_bind (m := f s xs[i]) (f := fun o => match o with
    | .nx s' => loopR f s' (xs.drop (i + 1))
    | .bk s' => .ok (.dn s')
    | .rt r => .ok (.rt r)) hw
  refine wp_imp hw (fun o ho => ?_) fun _ e => e
  cases o with
  | nx s' => exact ho
  | bk s' => exact ho
  | rt r => exact ho
theorem loopR_end {f : σt → α → R (Lp σt ρ)} {s : σt} {i : Nat} (h : xs.length ≤ i) {dn : σt → Prop} {rt : ρ → Prop} (hw : wp (loopR f s (xs.drop i)) (leP dn rt) E) : dn s := by
  rw [List.drop_of_length_le h] at hw
  exact hw
theorem rng_get (lo : Int) : ∀ (n i : Nat) (h : i < (rng lo n).length), (rng lo n)[i] = lo + i := by
  intro n
  induction n generalizing lo with
  | zero => intro i h; exact absurd h (Nat.not_lt_zero _)
  | succ n ih =>
    intro i h
    cases i with
    | zero =>
      show lo = lo + ((0 : Nat) : Int)
      omega
    | succ i =>
      have := ih (lo + 1) i (Nat.lt_of_succ_lt_succ h)
      show (rng (lo + 1) n)[i]'(Nat.lt_of_succ_lt_succ h) = lo + ((i + 1 : Nat) : Int)
      rw [this]
      omega

theorem for_rngR {f : σt → Int → R σt} (rel : σt → L2.St → Hp → Prop)
    (hm : wp (foldR f s0 (rng lo n)) (fun s => ∀ σ H, rel s σ H → D.nx σ H) E) (h0 : rel s0 σ H)
    (hs : ∀ (x : Int) (s : σt) (σ : L2.St) (H : Hp) (N : L2.St → Hp → Prop), rel s σ H → wp (f s x) (fun s' => ∀ σ' H', rel s' σ' H' → N σ' H') E →
      g (.int x) σ H fun σ2 H2 => tb { D with nx := N, ct := N, bk := D.nx } σ2 H2) :
    ∃ W : Nat → Nat → L2.St → Hp → Prop, (∃ m, W 0 m σ H) ∧ ∀ i m σ H, W i m σ H →
      ((Itr lo n).stop i H ∧ D.nx σ H) ∨ ((Itr lo n).go i H ∧ ∃ N : L2.St → Hp → Prop, (∀ σ' H', N σ' H' → ∃ m', m' < m ∧ W (i + 1) m' σ' H') ∧ ∀ x H', (Itr lo n).yld i H x H' → g x σ H' fun σ2 H2 => tb { D with nx := N, ct := N, bk := D.nx } σ2 H2) := by
  refine for_range (lo := lo) (n := n) (fun i σ H => ∃ s, rel s σ H ∧ wp (foldR f s ((rng lo n).drop i)) (fun s => ∀ σ H, rel s σ H → D.nx σ H) E) ⟨s0, h0, hm⟩ ?_ ?_
  · rintro i σ H hi ⟨s, hr, hw⟩
    have hi' : i < (rng lo n).length := by rw [rng_length]; exact hi
    have hw := foldR_step hi' hw
    rw [rng_get lo n i hi'] at hw
    exact hs (lo + i) s σ H _ hr (wp_imp hw (fun s' hs' => fun σ' H' r' => ⟨s', r', hs'⟩) fun _ e => e)
  · rintro σ H ⟨s, hr, hw⟩
    exact foldR_end (by rw [rng_length]; exact Nat.le_refl _) hw σ H hr

theorem for_rngL {f : σt → Int → R (Lp σt ρ)} {RT : ρ → Prop} (rel : σt → L2.St → Hp → Prop)
    (hm : wp (loopR f s0 (rng lo n)) (leP (fun s => ∀ σ H, rel s σ H → D.nx σ H) RT) E) (h0 : rel s0 σ H)
    (hs : ∀ (x : Int) (s : σt) (σ : L2.St) (H : Hp) (N : L2.St → Hp → Prop), rel s σ H → wp (f s x) (lpP (fun s' => ∀ σ' H', rel s' σ' H' → N σ' H') (fun s' => ∀ σ' H', rel s' σ' H' → D.nx σ' H') RT) E →
      g (.int x) σ H fun σ2 H2 => tb { D with nx := N, ct := N, bk := D.nx } σ2 H2) :
    ∃ W : Nat → Nat → L2.St → Hp → Prop, (∃ m, W 0 m σ H) ∧ ∀ i m σ H, W i m σ H →
      ((Itr lo n).stop i H ∧ D.nx σ H) ∨ ((Itr lo n).go i H ∧ ∃ N : L2.St → Hp → Prop, (∀ σ' H', N σ' H' → ∃ m', m' < m ∧ W (i + 1) m' σ' H') ∧ ∀ x H', (Itr lo n).yld i H x H' → g x σ H' fun σ2 H2 => tb { D with nx := N, ct := N, bk := D.nx } σ2 H2) := by
  refine for_range (lo := lo) (n := n) (fun i σ H => ∃ s, rel s σ H ∧ wp (loopR f s ((rng lo n).drop i)) (leP (fun s => ∀ σ H, rel s σ H → D.nx σ H) RT) E) ⟨s0, h0, hm⟩ ?_ ?_
  · rintro i σ H hi ⟨s, hr, hw⟩
    have hi' : i < (rng lo n).length := by rw [rng_length]; exact hi
    have hw := loopR_step hi' hw
    rw [rng_get lo n i hi'] at hw
    exact hs (lo + i) s σ H _ hr (wp_imp hw (fun s' hs' => (by
      cases s' with
      | nx s' => exact fun σ' H' r' => ⟨s', r', hs'⟩
      | bk s' => exact hs'
      | rt r => exact hs')) fun _ e => e)
  · rintro σ H ⟨s, hr, hw⟩
    exact loopR_end (by rw [rng_length]; exact Nat.le_refl _) hw σ H hr

theorem for_lstR {f : σt → α → R σt} (rel : σt → L2.St → Hp → Prop) {vs : List V} {H0 : Hp} (hp : Paired (r H0) xs vs)
    (hm : wp (foldR f s0 xs) (fun s => ∀ σ H, rel s σ H → D.nx σ H) E) (h0 : rel s0 σ H) (hl : ∀ s σ H, rel s σ H → SqL K H a vs)
    (hs : ∀ (x : α) (v : V) (s : σt) (σ : L2.St) (H : Hp) (N : L2.St → Hp → Prop), r H0 x v → rel s σ H → wp (f s x) (fun s' => ∀ σ' H', rel s' σ' H' → N σ' H') E →
      g v σ H fun σ2 H2 => tb { D with nx := N, ct := N, bk := D.nx } σ2 H2) :
    ∃ W : Nat → Nat → L2.St → Hp → Prop, (∃ m, W 0 m σ H) ∧ ∀ i m σ H, W i m σ H →
      ((Itl K a).stop i H ∧ D.nx σ H) ∨ ((Itl K a).go i H ∧ ∃ N : L2.St → Hp → Prop, (∀ σ' H', N σ' H' → ∃ m', m' < m ∧ W (i + 1) m' σ' H') ∧ ∀ x H', (Itl K a).yld i H x H' → g x σ H' fun σ2 H2 => tb { D with nx := N, ct := N, bk := D.nx } σ2 H2) := by
  refine for_list (K := K) (a := a) (xs := vs) (fun i σ H => ∃ s, rel s σ H ∧ wp (foldR f s (xs.drop i)) (fun s => ∀ σ H, rel s σ H → D.nx σ H) E) ⟨s0, h0, hm⟩ (fun i σ H _ ⟨s, hr, _⟩ => hl s σ H hr) ?_ ?_
  · rintro i v σ H hi ⟨s, hr, hw⟩
    have hi' : i < xs.length := by rw [Paired.length hp]; exact (List.getElem?_eq_some_iff.mp hi).1
    have hw := foldR_step hi' hw
    exact hs xs[i] v s σ H _ (Paired.get2 hp hi hi') hr (wp_imp hw (fun s' hs' => fun σ' H' r' => ⟨s', r', hs'⟩) fun _ e => e)
  · rintro σ H ⟨s, hr, hw⟩
    exact foldR_end (by rw [Paired.length hp]; exact Nat.le_refl _) hw σ H hr

theorem for_lstL {f : σt → α → R (Lp σt ρ)} {RT : ρ → Prop} (rel : σt → L2.St → Hp → Prop) {vs : List V} {H0 : Hp} (hp : Paired (r H0) xs vs)
    (hm : wp (loopR f s0 xs) (leP (fun s => ∀ σ H, rel s σ H → D.nx σ H) RT) E) (h0 : rel s0 σ H) (hl : ∀ s σ H, rel s σ H → SqL K H a vs)
    (hs : ∀ (x : α) (v : V) (s : σt) (σ : L2.St) (H : Hp) (N : L2.St → Hp → Prop), r H0 x v → rel s σ H → wp (f s x) (lpP (fun s' => ∀ σ' H', rel s' σ' H' → N σ' H') (fun s' => ∀ σ' H', rel s' σ' H' → D.nx σ' H') RT) E →
      g v σ H fun σ2 H2 => tb { D with nx := N, ct := N, bk := D.nx } σ2 H2) :
    ∃ W : Nat → Nat → L2.St → Hp → Prop, (∃ m, W 0 m σ H) ∧ ∀ i m σ H, W i m σ H →
      ((Itl K a).stop i H ∧ D.nx σ H) ∨ ((Itl K a).go i H ∧ ∃ N : L2.St → Hp → Prop, (∀ σ' H', N σ' H' → ∃ m', m' < m ∧ W (i + 1) m' σ' H') ∧ ∀ x H', (Itl K a).yld i H x H' → g x σ H' fun σ2 H2 => tb { D with nx := N, ct := N, bk := D.nx } σ2 H2) := by
  refine for_list (K := K) (a := a) (xs := vs) (fun i σ H => ∃ s, rel s σ H ∧ wp (loopR f s (xs.drop i)) (leP (fun s => ∀ σ H, rel s σ H → D.nx σ H) RT) E) ⟨s0, h0, hm⟩ (fun i σ H _ ⟨s, hr, _⟩ => hl s σ H hr) ?_ ?_
  · rintro i v σ H hi ⟨s, hr, hw⟩
    have hi' : i < xs.length := by rw [Paired.length hp]; exact (List.getElem?_eq_some_iff.mp hi).1
    have hw := loopR_step hi' hw
    exact hs xs[i] v s σ H _ (Paired.get2 hp hi hi') hr (wp_imp hw (fun s' hs' => (by
      cases s' with
      | nx s' => exact fun σ' H' r' => ⟨s', r', hs'⟩
      | bk s' => exact hs'
      | rt r => exact hs')) fun _ e => e)
  · rintro σ H ⟨s, hr, hw⟩
    exact loopR_end (by rw [Paired.length hp]; exact Nat.le_refl _) hw σ H hr

theorem for_tupR {f : σt → α → R σt} (rel : σt → L2.St → Hp → Prop) {vs : List V} {H0 : Hp} (hp : Paired (r H0) xs vs)
    (hm : wp (foldR f s0 xs) (fun s => ∀ σ H, rel s σ H → D.nx σ H) E) (h0 : rel s0 σ H) (hl : ∀ s σ H, rel s σ H → SqT K H a vs)
    (hs : ∀ (x : α) (v : V) (s : σt) (σ : L2.St) (H : Hp) (N : L2.St → Hp → Prop), r H0 x v → rel s σ H → wp (f s x) (fun s' => ∀ σ' H', rel s' σ' H' → N σ' H') E →
      g v σ H fun σ2 H2 => tb { D with nx := N, ct := N, bk := D.nx } σ2 H2) :
    ∃ W : Nat → Nat → L2.St → Hp → Prop, (∃ m, W 0 m σ H) ∧ ∀ i m σ H, W i m σ H →
      ((Itt K a).stop i H ∧ D.nx σ H) ∨ ((Itt K a).go i H ∧ ∃ N : L2.St → Hp → Prop, (∀ σ' H', N σ' H' → ∃ m', m' < m ∧ W (i + 1) m' σ' H') ∧ ∀ x H', (Itt K a).yld i H x H' → g x σ H' fun σ2 H2 => tb { D with nx := N, ct := N, bk := D.nx } σ2 H2) := by
  refine for_tup (K := K) (a := a) (xs := vs) (fun i σ H => ∃ s, rel s σ H ∧ wp (foldR f s (xs.drop i)) (fun s => ∀ σ H, rel s σ H → D.nx σ H) E) ⟨s0, h0, hm⟩ (fun i σ H _ ⟨s, hr, _⟩ => hl s σ H hr) ?_ ?_
  · rintro i v σ H hi ⟨s, hr, hw⟩
    have hi' : i < xs.length := by rw [Paired.length hp]; exact (List.getElem?_eq_some_iff.mp hi).1
    have hw := foldR_step hi' hw
    exact hs xs[i] v s σ H _ (Paired.get2 hp hi hi') hr (wp_imp hw (fun s' hs' => fun σ' H' r' => ⟨s', r', hs'⟩) fun _ e => e)
  · rintro σ H ⟨s, hr, hw⟩
    exact foldR_end (by rw [Paired.length hp]; exact Nat.le_refl _) hw σ H hr

theorem for_tupL {f : σt → α → R (Lp σt ρ)} {RT : ρ → Prop} (rel : σt → L2.St → Hp → Prop) {vs : List V} {H0 : Hp} (hp : Paired (r H0) xs vs)
    (hm : wp (loopR f s0 xs) (leP (fun s => ∀ σ H, rel s σ H → D.nx σ H) RT) E) (h0 : rel s0 σ H) (hl : ∀ s σ H, rel s σ H → SqT K H a vs)
    (hs : ∀ (x : α) (v : V) (s : σt) (σ : L2.St) (H : Hp) (N : L2.St → Hp → Prop), r H0 x v → rel s σ H → wp (f s x) (lpP (fun s' => ∀ σ' H', rel s' σ' H' → N σ' H') (fun s' => ∀ σ' H', rel s' σ' H' → D.nx σ' H') RT) E →
      g v σ H fun σ2 H2 => tb { D with nx := N, ct := N, bk := D.nx } σ2 H2) :
    ∃ W : Nat → Nat → L2.St → Hp → Prop, (∃ m, W 0 m σ H) ∧ ∀ i m σ H, W i m σ H →
      ((Itt K a).stop i H ∧ D.nx σ H) ∨ ((Itt K a).go i H ∧ ∃ N : L2.St → Hp → Prop, (∀ σ' H', N σ' H' → ∃ m', m' < m ∧ W (i + 1) m' σ' H') ∧ ∀ x H', (Itt K a).yld i H x H' → g x σ H' fun σ2 H2 => tb { D with nx := N, ct := N, bk := D.nx } σ2 H2) := by
  refine for_tup (K := K) (a := a) (xs := vs) (fun i σ H => ∃ s, rel s σ H ∧ wp (loopR f s (xs.drop i)) (leP (fun s => ∀ σ H, rel s σ H → D.nx σ H) RT) E) ⟨s0, h0, hm⟩ (fun i σ H _ ⟨s, hr, _⟩ => hl s σ H hr) ?_ ?_
  · rintro i v σ H hi ⟨s, hr, hw⟩
    have hi' : i < xs.length := by rw [Paired.length hp]; exact (List.getElem?_eq_some_iff.mp hi).1
    have hw := loopR_step hi' hw
    exact hs xs[i] v s σ H _ (Paired.get2 hp hi hi') hr (wp_imp hw (fun s' hs' => (by
      cases s' with
      | nx s' => exact fun σ' H' r' => ⟨s', r', hs'⟩
      | bk s' => exact hs'
      | rt r => exact hs')) fun _ e => e)
  · rintro σ H ⟨s, hr, hw⟩
    exact loopR_end (by rw [Paired.length hp]; exact Nat.le_refl _) hw σ H hr

/-- a while; N, W, m: handed on -/
theorem whl_R {c : TT} {cb : σt → R Bool} {f : σt → R σt} {n : Nat} (rel : σt → L2.St → Hp → Prop)
    (hm : wp (whileR cb f n s0) (fun s => ∀ σ H, rel s σ H → D.nx σ H) E) (h0 : rel s0 σ H)
    (hs : ∀ (s : σt) (σ : L2.St) (H : Hp) (N : L2.St → Hp → Prop) (W : Nat → L2.St → Hp → Prop) (m : Nat), (∀ σ' H', N σ' H' → ∃ m', m' < m ∧ W m' σ' H') → rel s σ H →
      wp (cb s) (fun b => if b = true then wp (f s) (fun s' => ∀ σ' H', rel s' σ' H' → N σ' H') E else ∀ σ H, rel s σ H → D.nx σ H) E →
      c σ H fun b H1 => if b = true then ∃ N : L2.St → Hp → Prop, (∀ σ' H', N σ' H' → ∃ m', m' < m ∧ W m' σ' H') ∧ tb { D with nx := N, ct := N, bk := D.nx } σ H1 else D.nx σ H1) : tWhile c tb D σ H := by
  refine ⟨fun m σ H => ∃ s, rel s σ H ∧ wp (whileR cb f m s) (fun s => ∀ σ H, rel s σ H → D.nx σ H) E, ⟨n, s0, h0, hm⟩, ?_⟩
  rintro m σ H ⟨s, hr, hw⟩
  cases m with
  | zero => exact hw.elim
  | succ m =>
    have hw := wp_bind (m := cb s) (f := fun b => if b = true then (f s).bind fun s' => whileR cb f m s' else .ok s) hw
    refine hs s σ H (fun σ' H' => ∃ s', rel s' σ' H' ∧ wp (whileR cb f m s') (fun s => ∀ σ H, rel s σ H → D.nx σ H) E) _ _ (fun σ' H' h => ⟨m, Nat.lt_succ_self _, h⟩) hr (wp_imp hw (fun b hb => ?_) fun _ e => e)
    cases b with
    | true => exact wp_imp (wp_bind hb) (fun s' hs' => fun σ' H' r' => ⟨s', r', hs'⟩) fun _ e => e
    | false => exact hb
theorem whl_L {c : TT} {cb : σt → R Bool} {f : σt → R (Lp σt ρ)} {n : Nat} {RT : ρ → Prop} (rel : σt → L2.St → Hp → Prop)
    (hm : wp (whileL cb f n s0) (leP (fun s => ∀ σ H, rel s σ H → D.nx σ H) RT) E) (h0 : rel s0 σ H)
    (hs : ∀ (s : σt) (σ : L2.St) (H : Hp) (N : L2.St → Hp → Prop) (W : Nat → L2.St → Hp → Prop) (m : Nat), (∀ σ' H', N σ' H' → ∃ m', m' < m ∧ W m' σ' H') → rel s σ H →
      wp (cb s) (fun b => if b = true then wp (f s) (lpP (fun s' => ∀ σ' H', rel s' σ' H' → N σ' H') (fun s' => ∀ σ' H', rel s' σ' H' → D.nx σ' H') RT) E else ∀ σ H, rel s σ H → D.nx σ H) E →
      c σ H fun b H1 => if b = true then ∃ N : L2.St → Hp → Prop, (∀ σ' H', N σ' H' → ∃ m', m' < m ∧ W m' σ' H') ∧ tb { D with nx := N, ct := N, bk := D.nx } σ H1 else D.nx σ H1) : tWhile c tb D σ H := by
  refine ⟨fun m σ H => ∃ s, rel s σ H ∧ wp (whileL cb f m s) (leP (fun s => ∀ σ H, rel s σ H → D.nx σ H) RT) E, ⟨n, s0, h0, hm⟩, ?_⟩
  rintro m σ H ⟨s, hr, hw⟩
  cases m with
  | zero => exact hw.elim
  | succ m =>
    have hw := wp_bind (m := cb s) (f := fun b => if b = true then (f s).bind fun o => match o with
      | .nx s' => whileL cb f m s'
      | .bk s' => .ok (.dn s')
      | .rt r => .ok (.rt r) else .ok (.dn s)) hw
    refine hs s σ H (fun σ' H' => ∃ s', rel s' σ' H' ∧ wp (whileL cb f m s') (leP (fun s => ∀ σ H, rel s σ H → D.nx σ H) RT) E) _ _ (fun σ' H' h => ⟨m, Nat.lt_succ_self _, h⟩) hr (wp_imp hw (fun b hb => ?_) fun _ e => e)
    cases b with
    | true =>
      refine wp_imp (wp_bind hb) (fun o ho => ?_) fun _ e => e
      cases o with
      | nx s' => exact fun σ' H' r' => ⟨s', r', ho⟩
      | bk s' => exact ho
      | rt r => exact ho
    | false => exact hb
theorem wp_thn {σ ρ τ : Type} {o : Le σ ρ} {k : σ → R τ} {ret : ρ → R τ} {P : τ → Prop} (h : wp (o.thn k ret) P E) : leP (fun s => wp (k s) P E) (fun r => wp (ret r) P E) o := by
  cases o <;> exact h
theorem leP_imp {σ ρ : Type} {o : Le σ ρ} {dn dn' : σ → Prop} {rt rt' : ρ → Prop} (h : leP dn rt o) (h1 : ∀ s, dn s → dn' s) (h2 : ∀ r, rt r → rt' r) : leP dn' rt' o := by
  cases o with
  | dn s => exact h1 s h
  | rt r => exact h2 r h
end
/-- two statements in a row: what the second one wants is shown once -/
theorem seq_join {S : Type} {t u : TS} {D : Ends} {σ : L2.St} {H : Hp} {m : R S} {Z : S → Prop} {E : Er → Prop} (hm : wp m Z E) (rel : S → L2.St → Hp → Prop)
    (h : ∀ N : L2.St → Hp → Prop, (∀ s σ' H', rel s σ' H' → Z s → N σ' H') → wp m Z E → t { D with nx := N } σ H) (hk : ∀ s σ' H', rel s σ' H' → Z s → u D σ' H') : tSeq t u D σ H := h (u D) hk hm
/-- .. behind a loop that may be left by return -/
theorem seq_joinL {σt ρ : Type} {t u : TS} {D : Ends} {σ : L2.St} {H : Hp} {m : R (Le σt ρ)} {Z : σt → Prop} {RT : ρ → Prop} {E : Er → Prop} (hm : wp m (leP Z RT) E) (rel : σt → L2.St → Hp → Prop)
    (h : ∀ N : L2.St → Hp → Prop, wp m (leP (fun s => ∀ σ' H', rel s σ' H' → N σ' H') RT) E → t { D with nx := N } σ H) (hk : ∀ s σ' H', rel s σ' H' → Z s → u D σ' H') : tSeq t u D σ H :=
  h (u D) (wp_imp hm (fun _ ho => leP_imp ho (fun s hz σ' H' hr => hk s σ' H' hr hz) fun _ h => h) fun _ e => e)
theorem iteB {c : Bool} {A B : Prop} (h1 : c = true → A) (h2 : c = false → B) : if c = true then A else B := by
  cases c with
  | true => exact iteT (h1 rfl)
  | false => exact iteF (h2 rfl)
theorem wp_iteB {α : Type} {c : Bool} {m n : R α} {P : α → Prop} {E : Er → Prop} (h : wp (if c = true then m else n) P E) : if c = true then wp m P E else wp n P E := by
  cases c <;> exact h
theorem ifT {c : Bool} {A B : Prop} (e : c = true) (h : if c = true then A else B) : A := by
  rw [if_pos e] at h
  exact h
theorem ifF {c : Bool} {A B : Prop} (e : c = false) (h : if c = true then A else B) : B := by
  rw [e, if_neg (by decide)] at h
  exact h
/-! ### parts of an expression that are shown apart: and, or, if -/
def EvT (t : TT) (σ : L2.St) (H : Hp) (m : R Bool) (E : Er → Prop) : Prop := ∀ Q : Bool → Hp → Prop, wp m (fun c => ∀ H', Gr [] H H' → Q c H') E → t σ H Q
def EvV {α : Type} (r : Rp α) (t : TE) (σ : L2.St) (H : Hp) (m : R α) (E : Er → Prop) : Prop := ∀ Q : VK, wp m (fun x => ∀ v H', Gr [] H H' → r H' x v → Q v H') E → t σ H Q
section
variable {t u : TT} {σ : L2.St} {H : Hp} {E : Er → Prop} {m n : R Bool}
def andR (m n : R Bool) : R Bool := m.bind fun b => if b = true then n else .ok false
def orR (m n : R Bool) : R Bool := m.bind fun b => if b = true then .ok true else n
theorem ev_and (h1 : EvT t σ H m E) (h2 : ∀ H', Gr [] H H' → EvT u σ H' n E) : EvT (tAnd t u) σ H (andR m n) E := fun Q hw => h1 _ (wp_imp (wp_bind hw) (fun b hb H' g => by
  cases b with
  | true => exact iteT (h2 H' g Q (wp_imp hb (fun c hc H2 g2 => hc H2 (g.trans g2)) fun _ e => e))
  | false => exact iteF (hb H' g)) fun _ e => e)
theorem ev_or (h1 : EvT t σ H m E) (h2 : ∀ H', Gr [] H H' → EvT u σ H' n E) : EvT (tOr t u) σ H (orR m n) E := fun Q hw => h1 _ (wp_imp (wp_bind hw) (fun b hb H' g => by
  cases b with
  | true => exact iteT (hb H' g)
  | false => exact iteF (h2 H' g Q (wp_imp hb (fun c hc H2 g2 => hc H2 (g.trans g2)) fun _ e => e))) fun _ e => e)
theorem ev_not (h1 : EvT t σ H m E) : EvT (tNot t) σ H (m.bind fun b => .ok (!b)) E := fun Q hw => h1 _ (wp_bind hw)
theorem ev_andV {ta tb : TE} (h1 : EvV rB ta σ H m E) (h2 : ∀ H', Gr [] H H' → EvV rB tb σ H' n E) : EvV rB (tAndV ta tb) σ H (andR m n) E := fun Q hw => h1 _ (wp_imp (wp_bind hw) (fun b hb v H' g e => ⟨b, e, by
  cases b with
  | true => exact iteT (h2 H' g Q (wp_imp hb (fun c hc v2 H2 g2 e2 => hc v2 H2 (g.trans g2) e2) fun _ e => e))
  | false => exact iteF (hb (.bl false) H' g rfl)⟩) fun _ e => e)
theorem ev_orV {ta tb : TE} (h1 : EvV rB ta σ H m E) (h2 : ∀ H', Gr [] H H' → EvV rB tb σ H' n E) : EvV rB (tOrV ta tb) σ H (orR m n) E := fun Q hw => h1 _ (wp_imp (wp_bind hw) (fun b hb v H' g e => ⟨b, e, by
  cases b with
  | true => exact iteT (hb (.bl true) H' g rfl)
  | false => exact iteF (h2 H' g Q (wp_imp hb (fun c hc v2 H2 g2 e2 => hc v2 H2 (g.trans g2) e2) fun _ e => e))⟩) fun _ e => e)
theorem ev_notV {ta : TE} (h1 : EvV rB ta σ H m E) : EvV rB (tNotV ta) σ H (m.bind fun b => .ok (!b)) E := fun Q hw => h1 _ (wp_imp (wp_bind hw) (fun b hb v H' g e => ⟨b, e, hb (.bl (!b)) H' g rfl⟩) fun _ e => e)
theorem ev_if {α : Type} {r : Rp α} {ta tb : TE} {x y : R α} (h1 : EvT t σ H m E) (h2 : ∀ H', Gr [] H H' → EvV r ta σ H' x E) (h3 : ∀ H', Gr [] H H' → EvV r tb σ H' y E) : EvV r (tIf t ta tb) σ H (m.bind fun b => if b = true then x else y) E :=
  fun Q hw => h1 _ (wp_imp (wp_bind hw) (fun b hb H' g => by
    cases b with
    | true => exact iteT (h2 H' g Q (wp_imp hb (fun c hc v2 H2 g2 e2 => hc v2 H2 (g.trans g2) e2) fun _ e => e))
    | false => exact iteF (h3 H' g Q (wp_imp hb (fun c hc v2 H2 g2 e2 => hc v2 H2 (g.trans g2) e2) fun _ e => e))) fun _ e => e)
end
/-! ### a def, for its callers -/
def Cal (P : Program) (w : World) (K : PySem.W.Frag) (mg : Str → Option Value) (base : Heap) (CX : CXT) (k : Nat) (x : Str) (ps : List Str) (sp : Sp) : Prop :=
  ∃ (f : Addr) (fd : FuncData), FnOk P w K mg base CX k f fd ps sp ∧ mg x = some (.ref f) ∧ PySem.W.keepIn K (.ref f) = true ∧ Binds K fd ps []

/-- .. where the statement is the last of its block -/
theorem nx_join {S : Type} {t : TS} {D : Ends} {σ : L2.St} {H : Hp} {m : R S} {Z : S → Prop} {E : Er → Prop} (hm : wp m Z E) (rel : S → L2.St → Hp → Prop)
    (h : ∀ N : L2.St → Hp → Prop, (∀ s σ' H', rel s σ' H' → Z s → N σ' H') → wp m Z E → t { D with nx := N } σ H) (hk : ∀ s σ' H', rel s σ' H' → Z s → D.nx σ' H') : t D σ H := h D.nx hk hm
theorem nx_joinL {σt ρ : Type} {t : TS} {D : Ends} {σ : L2.St} {H : Hp} {m : R (Le σt ρ)} {Z : σt → Prop} {RT : ρ → Prop} {E : Er → Prop} (hm : wp m (leP Z RT) E) (rel : σt → L2.St → Hp → Prop)
    (h : ∀ N : L2.St → Hp → Prop, wp m (leP (fun s => ∀ σ' H', rel s σ' H' → N σ' H') RT) E → t { D with nx := N } σ H) (hk : ∀ s σ' H', rel s σ' H' → Z s → D.nx σ' H') : t D σ H :=
  h D.nx (wp_imp hm (fun _ ho => leP_imp ho (fun s hz σ' H' hr => hk s σ' H' hr hz) fun _ h => h) fun _ e => e)
theorem wp_le {σt ρ τ : Type} {m : R (Le σt ρ)} {k : σt → R τ} {ret : ρ → R τ} {P : τ → Prop} {E : Er → Prop} (h : wp (m.bind fun o => o.thn k ret) P E) : wp m (leP (fun s => wp (k s) P E) (fun r => wp (ret r) P E)) E :=
  wp_imp (wp_bind h) (fun _ h => wp_thn h) fun _ e => e
theorem wp_N {S : Type} {m : R S} {Z : S → Prop} {E : Er → Prop} {rel : S → L2.St → Hp → Prop} {N : L2.St → Hp → Prop} (hm : wp m Z E) (hN : ∀ s σ' H', rel s σ' H' → Z s → N σ' H') : wp m (fun s => ∀ σ' H', rel s σ' H' → N σ' H') E :=
  wp_imp hm (fun s hz σ' H' hr => hN s σ' H' hr hz) fun _ e => e
theorem all0 {P : Addr → Prop} : ∀ p ∈ ([] : List Addr), P p := fun _ m => absurd m (by simp)
theorem all1 {P : Addr → Prop} {a : Addr} {l : List Addr} (h : P a) (t : ∀ p ∈ l, P p) : ∀ p ∈ a :: l, P p := fun p m => by
  rcases List.mem_cons.mp m with rfl | m
  · exact h
  · exact t p m
theorem nin0 {a : Addr} : a ∉ ([] : List Addr) := by simp
theorem nin1 {a b : Addr} {l : List Addr} (h : a ≠ b) (t : a ∉ l) : a ∉ b :: l := fun m => by
  rcases List.mem_cons.mp m with e | m
  · exact h e
  · exact t m
theorem in0 {a : Addr} {l : List Addr} : a ∈ a :: l := List.mem_cons_self
theorem in1 {a b : Addr} {l : List Addr} (h : a ∈ l) : a ∈ b :: l := List.mem_cons_of_mem _ h
/-! ### more on data -/
theorem rO_some {α : Type} {r : Rp α} {H : Hp} {x : α} {v : V} (h : v ≠ .non ∧ r H x v) : rO r H (some x) v := h
def pgcd (a b : Int) : Int := ((Nat.gcd a.natAbs b.natAbs : Nat) : Int)
instance (i j : Int) : Decidable (CMul i j) := inferInstanceAs (Decidable (_ ∨ _))
instance (i j : Int) : Decidable (CDiv i j) := inferInstanceAs (Decidable (_ ∧ _))
instance (i j : Int) : Decidable (CDivN i j) := inferInstanceAs (Decidable (_ ∧ _))
section
variable {α β γ : Type} {K : PySem.W.Frag} {r : Rp α} {s : Rp β} {t : Rp γ} {H : Hp} {a : Addr} {xs : List α} {Q : VK} {E : Er → Prop}
theorem Ls.ty (h : Ls r H a xs) : tyV K "list" (.ref a) H := let ⟨_, h1, _⟩ := h; .inl ⟨rfl, _, .inl (.inl h1)⟩
theorem sorted_L {ns : List Int} (h : Lq K rI H a ns) (q : ∀ p H', H p = none → Gr [] H H' → Ls rI H' p (isort ns) → Q (.ref p) H') : ap3 (rSortedI K) [.ref a] H Q := by
  obtain ⟨vs, h1, h2⟩ := h
  have e := ints_of h2
  subst e
  refine ⟨a, ns, rfl, h1, fun ns' p pm sr n => ?_⟩
  have e : ns' = isort ns := sort_eq (pm.trans (isort_perm ns).symm) sr (isort_le ns)
  subst e
  exact q _ _ n (Gr.new n) ⟨_, upd_same, of_ints⟩
/-- an item is added to a comprehension's list -/
theorem lc_add [Imm r] {x : α} {y : V} {Nx : Hp → Prop} (h : Ls r H a xs) (hy : r H x y) (l : lenLt xs) (q : ∀ H', Gr [a] H H' → Ls r H' a (xs ++ [x]) → Nx H') : ∃ acc, H a = some (.lst acc) ∧ acc.length < sizeLine ∧ Nx (upd H a (.lst (acc ++ [y]))) := by
  obtain ⟨vs, h1, h2⟩ := h
  exact ⟨vs, h1, by rw [← Paired.length h2]; exact l, q _ (Gr.set h1) ⟨_, upd_same, Paired.app (Paired.imm (Gr.set h1) h2) (.cons (Imm.mono (Gr.set h1) hy) .nil)⟩⟩
theorem chain_I {X Y Z : Int} {p q : Int → Int → Bool} {ta tb tc : TE} {σ : L2.St} (ha : ∀ Q : VK, Q (.int X) H → ta σ H Q) (hb : ∀ Q : VK, Q (.int Y) H → tb σ H Q) (hc : ∀ Q : VK, Q (.int Z) H → tc σ H Q)
    (h : Q (.bl (p X Y && q Y Z)) H) : tChain (rI0 fun i j => .bl (p i j)) (rI0 fun i j => .bl (q i j)) ta tb tc σ H Q := by
  refine ha _ (hb _ ⟨_, _, rfl, rfl, _, rfl, ?_⟩)
  cases e : p X Y with
  | true =>
    rw [e] at h
    exact iteT (hc _ ⟨_, _, rfl, rfl, h⟩)
  | false =>
    rw [e] at h
    exact iteF h
/-! ### == of data -/
theorem beq_dec {α : Type} [BEq α] [LawfulBEq α] [DecidableEq α] (a b : α) : (a == b) = decide (a = b) := by
  rw [Bool.eq_iff_iff, beq_iff_eq, decide_eq_true_eq]
structure DRep {α : Type} [DecidableEq α] (K : PySem.W.Frag) (r : Rp α) where
  enc : α → PyData
  dp : ∀ {H : Hp} {x : α} {v : V}, r H x v → Dp K H v (enc x)
  lay : ∀ x, (enc x).canLay0 = true
  dep : Nat
  dep_le : ∀ x, (enc x).depth ≤ dep
  eqv : ∀ x y, PyData.eqv (enc x) (enc y) = decide (x = y)
def DRep.int (K : PySem.W.Frag) : DRep K rI := ⟨.int, fun h => by rw [show _ = V.int _ from h]; exact .int _, fun _ => by rw [PyData.canLay0], 0, fun _ => by rw [PyData.depth]; exact Nat.le_refl _, fun a b => by
  simp only [PyData.eqv]
  exact beq_dec a b⟩
def DRep.bool (K : PySem.W.Frag) : DRep K rB := ⟨.bool, fun h => by rw [show _ = V.bl _ from h]; exact .bl _, fun _ => by rw [PyData.canLay0], 0, fun _ => by rw [PyData.depth]; exact Nat.le_refl _, fun a b => by
  simp only [PyData.eqv]
  exact beq_dec a b⟩
section
variable [DecidableEq α] [DecidableEq β] [DecidableEq γ]
theorem DRep.all (d : DRep K r) : ∀ {xs : List α} {vs : List V}, Paired (r H) xs vs → DpAll K H vs (xs.map d.enc)
  | _, _, .nil => .nil
  | _, _, .cons h t => .cons (d.dp h) (DRep.all d t)
theorem DRep.layA (d : DRep K r) : ∀ xs : List α, PyData.canLayAll0 (xs.map d.enc) = true
  | [] => by rw [List.map_nil, PyData.canLayAll0]
  | x :: xs => by
    rw [List.map_cons, PyData.canLayAll0, d.lay x, DRep.layA d xs]
    rfl
theorem DRep.depA (d : DRep K r) : ∀ xs : List α, PyData.depthAll (xs.map d.enc) ≤ d.dep
  | [] => by
    rw [List.map_nil, PyData.depthAll]
    exact Nat.zero_le _
  | x :: xs => by
    rw [List.map_cons, PyData.depthAll]
    exact Nat.max_le.mpr ⟨d.dep_le x, DRep.depA d xs⟩
theorem DRep.eqvA (d : DRep K r) : ∀ xs ys : List α, PyData.eqvAll (xs.map d.enc) (ys.map d.enc) = decide (xs = ys)
  | [], [] => by simp only [List.map_nil, PyData.eqvAll, decide_true]
  | [], _ :: _ => by simp [PyData.eqvAll]
  | _ :: _, [] => by simp [PyData.eqvAll]
  | x :: xs, y :: ys => by
    rw [List.map_cons, List.map_cons, PyData.eqvAll, d.eqv x y, DRep.eqvA d xs ys, ← Bool.decide_and]
    exact decide_eq_decide.mpr (by rw [List.cons.injEq])
def DRep.tup (d : DRep K r) : DRep K (rT K r) where
  enc xs := .tuple (xs.map d.enc)
  dp := fun h => by
    obtain ⟨a, rfl, vs, h1, h2⟩ := h
    exact .tup h1 (d.all h2)
  lay xs := by rw [PyData.canLay0]; exact d.layA xs
  dep := d.dep + 1
  dep_le xs := by rw [PyData.depth]; exact Nat.succ_le_succ (d.depA xs)
  eqv xs ys := by simp only [PyData.eqv]; exact d.eqvA xs ys
def rL (K : PySem.W.Frag) (r : Rp α) : Rp (List α) := fun H xs v => ∃ a, v = .ref a ∧ Lq K r H a xs
theorem rL_of (h : Lq K r H a xs) : rL K r H xs (.ref a) := ⟨a, rfl, h⟩
def DRep.lst (d : DRep K r) : DRep K (rL K r) where
  enc xs := .list (xs.map d.enc)
  dp := fun h => by
    obtain ⟨a, rfl, vs, h1, h2⟩ := h
    exact .lst h1 (d.all h2)
  lay xs := by rw [PyData.canLay0]; exact d.layA xs
  dep := d.dep + 1
  dep_le xs := by rw [PyData.depth]; exact Nat.succ_le_succ (d.depA xs)
  eqv xs ys := by simp only [PyData.eqv]; exact d.eqvA xs ys
def DRep.pair (d : DRep K r) (e : DRep K s) : DRep K (rP K r s) where
  enc p := .tuple [d.enc p.1, e.enc p.2]
  dp := fun h => by
    obtain ⟨a, x, y, rfl, h, h1, h2⟩ := h
    exact .tup h (.cons (d.dp h1) (.cons (e.dp h2) .nil))
  lay p := by simp [PyData.canLay0, PyData.canLayAll0, d.lay, e.lay]
  dep := max d.dep e.dep + 1
  dep_le p := by
    have := d.dep_le p.1
    have := e.dep_le p.2
    simp only [PyData.depth, PyData.depthAll]
    omega
  eqv p q := by
    obtain ⟨a, b⟩ := p
    obtain ⟨c, f⟩ := q
    simp only [PyData.eqv, PyData.eqvAll, d.eqv, e.eqv, Bool.and_true, ← Bool.decide_and]
    exact decide_eq_decide.mpr (by rw [Prod.mk.injEq])
theorem DRep.sh (d : DRep K r) (hl : d.dep ≤ 64) (x : α) : SeqAt.shaped (d.enc x) = true := by
  unfold SeqAt.shaped
  rw [d.lay x, Bool.true_and]
  exact decide_eq_true (Nat.le_trans (d.dep_le x) hl)
theorem eq_D (d : DRep K r) {x y : α} {v w : V} (hx : r H x v) (hy : r H y w) (q : Q (.bl (decide (x = y))) H) (hl : d.dep ≤ 64 := by exact Nat.le_of_ble_eq_true rfl) : rEqD K v w H Q :=
  ⟨_, _, d.dp hx, d.dp hy, d.sh hl x, d.sh hl y, by rw [d.eqv]; exact q⟩
theorem ne_D (d : DRep K r) {x y : α} {v w : V} (hx : r H x v) (hy : r H y w) (q : Q (.bl (!decide (x = y))) H) (hl : d.dep ≤ 64 := by exact Nat.le_of_ble_eq_true rfl) : rNeD K v w H Q :=
  ⟨_, _, d.dp hx, d.dp hy, d.sh hl x, d.sh hl y, by rw [d.eqv]; exact q⟩
end
/-! ### comprehensions over lists, tuples, ranges; A: the lists that the elements change, st: what else is carried -/
theorem lc_lst {σt : Type} {s0 : σt} {f : σt → α → R σt} {Z : σt → Prop} {g : TG} {tt : TT} {te : TE} {own : List Nat} {σ : L2.St} {H1 : Hp} {D : Addr} {Qd : Hp → Prop} (rel : σt → Hp → Prop) {vs : List V} (hp : Paired (r H1) xs vs)
    (hm : wp (foldR f s0 xs) Z E) (h0 : rel s0 (upd H1 D (.lst []))) (hl : ∀ s H, rel s H → SqL K H a vs)
    (hs : ∀ (x : α) (v : V) (s : σt) (H : Hp) (Nx : Hp → Prop), r H1 x v → rel s H → wp (f s x) (fun s' => ∀ H', rel s' H' → Nx H') E →
      g (v) (wipe σ own) H fun σ2 H2 => wipe σ2 own = wipe σ own ∧ tt σ2 H2 fun b H3 => if b = true then te σ2 H3 fun y H4 => ∃ acc, H4 D = some (.lst acc) ∧ acc.length < sizeLine ∧ Nx (upd H4 D (.lst (acc ++ [y]))) else Nx H3)
    (hd : ∀ s H, rel s H → Z s → Qd H) :
    ∃ W : Nat → Nat → Hp → Prop, (∃ m, W 0 m (upd H1 D (.lst []))) ∧ ∀ i m H, W i m H →
      ((Itl K a).stop i H ∧ Qd H) ∨ ((Itl K a).go i H ∧ ∃ Nx : Hp → Prop, (∀ H', Nx H' → ∃ m', m' < m ∧ W (i + 1) m' H') ∧ ∀ x H', (Itl K a).yld i H x H' → g x (wipe σ own) H' fun σ2 H2 => wipe σ2 own = wipe σ own ∧ tt σ2 H2 fun b H3 =>
        if b = true then te σ2 H3 fun y H4 => ∃ acc, H4 D = some (.lst acc) ∧ acc.length < sizeLine ∧ Nx (upd H4 D (.lst (acc ++ [y]))) else Nx H3) := by
  refine L2.lc_list (K := K) (a := a) (xs := vs) (fun i H => ∃ s, rel s H ∧ wp (foldR f s (xs.drop i)) Z E) ⟨s0, h0, hm⟩ (fun i H _ ⟨s, hr, _⟩ => hl s H hr) ?_ ?_
  · rintro i v H hi ⟨s, hr, hw⟩
    have hi' : i < xs.length := by rw [Paired.length hp]; exact (List.getElem?_eq_some_iff.mp hi).1
    have hw := foldR_step hi' hw
    exact hs xs[i] v s H _ (Paired.get2 hp hi hi') hr (wp_imp hw (fun s' hs' => fun H' r' => ⟨s', r', hs'⟩) fun _ e => e)
  · rintro H ⟨s, hr, hw⟩
    exact hd s H hr (foldR_end (by rw [Paired.length hp]; exact Nat.le_refl _) hw)
theorem lc_tup {σt : Type} {s0 : σt} {f : σt → α → R σt} {Z : σt → Prop} {g : TG} {tt : TT} {te : TE} {own : List Nat} {σ : L2.St} {H1 : Hp} {D : Addr} {Qd : Hp → Prop} (rel : σt → Hp → Prop) {vs : List V} (hp : Paired (r H1) xs vs)
    (hm : wp (foldR f s0 xs) Z E) (h0 : rel s0 (upd H1 D (.lst []))) (hl : ∀ s H, rel s H → SqT K H a vs)
    (hs : ∀ (x : α) (v : V) (s : σt) (H : Hp) (Nx : Hp → Prop), r H1 x v → rel s H → wp (f s x) (fun s' => ∀ H', rel s' H' → Nx H') E →
      g (v) (wipe σ own) H fun σ2 H2 => wipe σ2 own = wipe σ own ∧ tt σ2 H2 fun b H3 => if b = true then te σ2 H3 fun y H4 => ∃ acc, H4 D = some (.lst acc) ∧ acc.length < sizeLine ∧ Nx (upd H4 D (.lst (acc ++ [y]))) else Nx H3)
    (hd : ∀ s H, rel s H → Z s → Qd H) :
    ∃ W : Nat → Nat → Hp → Prop, (∃ m, W 0 m (upd H1 D (.lst []))) ∧ ∀ i m H, W i m H →
      ((Itt K a).stop i H ∧ Qd H) ∨ ((Itt K a).go i H ∧ ∃ Nx : Hp → Prop, (∀ H', Nx H' → ∃ m', m' < m ∧ W (i + 1) m' H') ∧ ∀ x H', (Itt K a).yld i H x H' → g x (wipe σ own) H' fun σ2 H2 => wipe σ2 own = wipe σ own ∧ tt σ2 H2 fun b H3 =>
        if b = true then te σ2 H3 fun y H4 => ∃ acc, H4 D = some (.lst acc) ∧ acc.length < sizeLine ∧ Nx (upd H4 D (.lst (acc ++ [y]))) else Nx H3) := by
  refine L2.lc_tup (K := K) (a := a) (xs := vs) (fun i H => ∃ s, rel s H ∧ wp (foldR f s (xs.drop i)) Z E) ⟨s0, h0, hm⟩ (fun i H _ ⟨s, hr, _⟩ => hl s H hr) ?_ ?_
  · rintro i v H hi ⟨s, hr, hw⟩
    have hi' : i < xs.length := by rw [Paired.length hp]; exact (List.getElem?_eq_some_iff.mp hi).1
    have hw := foldR_step hi' hw
    exact hs xs[i] v s H _ (Paired.get2 hp hi hi') hr (wp_imp hw (fun s' hs' => fun H' r' => ⟨s', r', hs'⟩) fun _ e => e)
  · rintro H ⟨s, hr, hw⟩
    exact hd s H hr (foldR_end (by rw [Paired.length hp]; exact Nat.le_refl _) hw)
theorem lc_rng {σt : Type} {s0 : σt} {f : σt → Int → R σt} {Z : σt → Prop} {g : TG} {tt : TT} {te : TE} {own : List Nat} {σ : L2.St} {H1 : Hp} {D : Addr} {Qd : Hp → Prop} (rel : σt → Hp → Prop) {lo : Int} {n : Nat}
    (hm : wp (foldR f s0 (rng lo n)) Z E) (h0 : rel s0 (upd H1 D (.lst [])))
    (hs : ∀ (x : Int) (s : σt) (H : Hp) (Nx : Hp → Prop), rel s H → wp (f s x) (fun s' => ∀ H', rel s' H' → Nx H') E →
      g (.int x) (wipe σ own) H fun σ2 H2 => wipe σ2 own = wipe σ own ∧ tt σ2 H2 fun b H3 => if b = true then te σ2 H3 fun y H4 => ∃ acc, H4 D = some (.lst acc) ∧ acc.length < sizeLine ∧ Nx (upd H4 D (.lst (acc ++ [y]))) else Nx H3)
    (hd : ∀ s H, rel s H → Z s → Qd H) :
    ∃ W : Nat → Nat → Hp → Prop, (∃ m, W 0 m (upd H1 D (.lst []))) ∧ ∀ i m H, W i m H →
      ((Itr lo n).stop i H ∧ Qd H) ∨ ((Itr lo n).go i H ∧ ∃ Nx : Hp → Prop, (∀ H', Nx H' → ∃ m', m' < m ∧ W (i + 1) m' H') ∧ ∀ x H', (Itr lo n).yld i H x H' → g x (wipe σ own) H' fun σ2 H2 => wipe σ2 own = wipe σ own ∧ tt σ2 H2 fun b H3 =>
        if b = true then te σ2 H3 fun y H4 => ∃ acc, H4 D = some (.lst acc) ∧ acc.length < sizeLine ∧ Nx (upd H4 D (.lst (acc ++ [y]))) else Nx H3) := by
  refine L2.lc_range (lo := lo) (n := n) (fun i H => ∃ s, rel s H ∧ wp (foldR f s ((rng lo n).drop i)) Z E) ⟨s0, h0, hm⟩ ?_ ?_
  · rintro i H hi ⟨s, hr, hw⟩
    have hi' : i < (rng lo n).length := by rw [rng_length]; exact hi
    have hw := foldR_step hi' hw
    rw [rng_get lo n i hi'] at hw
    exact hs (lo + i) s H _ hr (wp_imp hw (fun s' hs' => fun H' r' => ⟨s', r', hs'⟩) fun _ e => e)
  · rintro H ⟨s, hr, hw⟩
    exact hd s H hr (foldR_end (by rw [rng_length]; exact Nat.le_refl _) hw)
end

theorem iteB' {c : Bool} {A B : Prop} (h2 : c = false → B) (h1 : c = true → A) : if c = true then A else B := iteB h1 h2
def rgOk (j : Int) : Prop := -(2 ^ 62) ≤ j ∧ j < 2 ^ 62
instance (j : Int) : Decidable (rgOk j) := inferInstanceAs (Decidable (_ ∧ _))
def rg2Ok (i j : Int) : Prop := -(2 ^ 62) ≤ i ∧ i < 2 ^ 62 ∧ -(2 ^ 62) ≤ j ∧ j < 2 ^ 62
instance (i j : Int) : Decidable (rg2Ok i j) := inferInstanceAs (Decidable (_ ∧ _))

/-! ### the readings' parts, one by one -/
section
variable {D : Ends} {σ : L2.St} {H : Hp} {Q : VK} {K : PySem.W.Frag} {ta tb te : TE} {t u : TS} {tc : TT} {l : TA} {i j k : Nat} {v w : V}
theorem rd_var (e : σ[i]? = some (some v)) (h : Q v H) : tVar i σ H Q := ⟨v, e, h⟩
theorem rd_c (h : Q v H) : tC v σ H Q := h
theorem rd_op {r : R2} (h : ta σ H fun x H1 => tb σ H1 fun y H2 => r x y H2 Q) : tOp r ta tb σ H Q := h
theorem rd_rI0 {g : Int → Int → V} {a b : Int} (h : Q (g a b) H) : rI0 g (.int a) (.int b) H Q := ⟨a, b, rfl, rfl, h⟩
theorem rd_rI {C : Int → Int → Prop} {g : Int → Int → V} {a b : Int} (c : C a b) (h : Q (g a b) H) : L2.rI C g (.int a) (.int b) H Q := ⟨a, b, rfl, rfl, c, h⟩
theorem rd_un {r : V → Hp → VK → Prop} (h : ta σ H fun x H1 => r x H1 Q) : tUn r ta σ H Q := h
theorem rd_rU {g : Int → V} {a : Int} (h : Q (g a) H) : rU g (.int a) H Q := ⟨a, rfl, h⟩
def k2 (p : Int → Int → Bool) (x y : V) (H : Hp) (Q : VK) : Prop := ∃ i j, x = .int i ∧ y = .int j ∧ Q (.bl (p i j)) H
theorem rd_k2 {p : Int → Int → Bool} {a b : Int} (h : Q (.bl (p a b)) H) : k2 p (.int a) (.int b) H Q := ⟨a, b, rfl, rfl, h⟩
theorem rd_cmp {p : Int → Int → Bool} (h : ta σ H fun x H1 => tb σ H1 fun y H2 => k2 p x y H2 Q) : tCmp p ta tb σ H Q := h
def kB (x : V) (H : Hp) (Q : Bool → Hp → Prop) : Prop := ∃ c, x = .bl c ∧ Q c H
theorem rd_kB {c : Bool} {Q : Bool → Hp → Prop} (h : Q c H) : kB (.bl c) H Q := ⟨c, rfl, h⟩
theorem rd_B {Q : Bool → Hp → Prop} (h : ta σ H fun x H1 => kB x H1 Q) : tB ta σ H Q := h
theorem rd_T {Q : Bool → Hp → Prop} (h : ta σ H fun x H1 => kB x H1 Q) : tTest ta σ H Q := h
def kN (x : V) (H : Hp) (Q : VK) : Prop := ∃ c, x = .bl c ∧ Q (.bl (!c)) H
theorem rd_kN {c : Bool} (h : Q (.bl (!c)) H) : kN (.bl c) H Q := ⟨c, rfl, h⟩
theorem rd_notV (h : ta σ H fun x H1 => kN x H1 Q) : tNotV ta σ H Q := h
theorem rd_not {Q : Bool → Hp → Prop} (h : tc σ H fun c H1 => Q (!c) H1) : tNot tc σ H Q := h
theorem rd_rEq {x y : V} (s : scal x y = true) (h : Q (.bl (decide (x = y))) H) : rEq x y H Q := ⟨s, h⟩
theorem rd_rNe {x y : V} (s : scal x y = true) (h : Q (.bl (!decide (x = y))) H) : rNe x y H Q := ⟨s, h⟩
theorem rd_call {sp : Sp} {dvs : List V} {E : XK} (h : l σ H fun vs H1 => sp (vs ++ dvs) H1 Q E) : tCall sp dvs E l σ H Q := h
theorem rd_cb {r : List V → Hp → VK → Prop} (h : l σ H fun vs H1 => ap3 r vs H1 Q) : tCB r l σ H Q := h
theorem rd_nil {Q : List V → Hp → Prop} (h : Q [] H) : tNil σ H Q := h
theorem rd_cons {Q : List V → Hp → Prop} (h : ta σ H fun x H1 => l σ H1 fun xs H2 => Q (x :: xs) H2) : tCons ta l σ H Q := h
theorem rd_tup (h : l σ H fun xs H1 => aTup xs H1 Q) : tTup l σ H Q := h
theorem rd_lst (h : l σ H fun xs H1 => aLst xs H1 Q) : tLst l σ H Q := h
theorem rd_sl {r : V → Option Int → Option Int → Hp → VK → Prop} {tl th : TO} (h : te σ H fun x H1 => tl σ H1 fun l H2 => th σ H2 fun u H3 => r x l u H3 Q) : tSl r te tl th σ H Q := h
theorem rd_np {Q : Option Int → Hp → Prop} (h : Q none H) : tNoPart σ H Q := h
def kI (x : V) (H : Hp) (Q : Option Int → Hp → Prop) : Prop := ∃ i, x = .int i ∧ Q (some i) H
theorem rd_kI {a : Int} {Q : Option Int → Hp → Prop} (h : Q (some a) H) : kI (.int a) H Q := ⟨a, rfl, h⟩
theorem rd_part {Q : Option Int → Hp → Prop} (h : te σ H fun x H1 => kI x H1 Q) : tPart te σ H Q := h
theorem rd_bm {T : String} {r : V → List V → Hp → VK → Prop} (h : te σ H fun x H1 => tyV K T x H1 ∧ l σ H1 fun xs H2 => r x xs H2 Q) : tBM K T r te l σ H Q := h
theorem rd_bm0 {T : String} {r : V → List V → Hp → VK → Prop} (h : te σ H fun x H1 => tyV K T x H1 ∧ r x [] H1 Q) : tBM0 K T r te σ H Q := h
theorem rd_il {R : It → Hp → Prop} (h : te σ H fun x H1 => ∃ a, x = .ref a ∧ (∃ xs, SqL K H1 a xs) ∧ R (Itl K a) H1) : iList K te σ H R := h
theorem rd_it {R : It → Hp → Prop} (h : te σ H fun x H1 => ∃ a, x = .ref a ∧ (∃ xs, SqT K H1 a xs) ∧ R (Itt K a) H1) : iTup K te σ H R := h
theorem rd_r1 {R : It → Hp → Prop} (h : l σ H fun vs H1 => ∃ j : Int, vs = [.int j] ∧ -(2 ^ 62) ≤ j ∧ j < 2 ^ 62 ∧ R (Itr 0 j.toNat) H1) : iRng1 l σ H R := h
theorem rd_r2 {R : It → Hp → Prop} (h : l σ H fun vs H1 => ∃ i j : Int, vs = [.int i, .int j] ∧ (-(2 ^ 62) ≤ i ∧ i < 2 ^ 62 ∧ -(2 ^ 62) ≤ j ∧ j < 2 ^ 62) ∧ R (Itr i (j - i).toNat) H1) : iRng2 l σ H R := h
-- statements
theorem rd_seq (h : t ⟨u D, D.rt, D.bk, D.ct⟩ σ H) : tSeq t u D σ H := h
theorem rd_nx {n b c : L2.St → Hp → Prop} {r : VK} (h : n σ H) : Ends.nx ⟨n, r, b, c⟩ σ H := h
theorem rd_next (h : D.nx σ H) : tNext D σ H := h
theorem rd_asg {g : TG} (h : te σ H fun x H1 => g x σ H1 D.nx) : tAsg te g D σ H := h
theorem rd_gn {Q : L2.St → Hp → Prop} (h : Q (σ.set i (some v)) H) : gName i v σ H Q := h
theorem rd_ret (h : te σ H D.rt) : tRet te D σ H := h
theorem rd_if (h : tc σ H fun b H1 => if b = true then t D σ H1 else u D σ H1) : tIfS tc t u D σ H := h
theorem rd_drop (h : te σ H fun _ H1 => D.nx σ H1) : tDrop te D σ H := h
def kp2 (i j : Nat) (vs : List V) (σ : L2.St) (H : Hp) (Q : L2.St → Hp → Prop) : Prop := ∃ v w, vs = [v, w] ∧ Q ((σ.set i (some v)).set j (some w)) H
theorem rd_kp2 {Q : L2.St → Hp → Prop} {a b : V} (h : Q ((σ.set i (some a)).set j (some b)) H) : kp2 i j [a, b] σ H Q := ⟨a, b, rfl, h⟩
theorem rd_par (h : l σ H fun vs H1 => kp2 i j vs σ H1 D.nx) : tPar i j l D σ H := h
def kp3 (i j k : Nat) (vs : List V) (σ : L2.St) (H : Hp) (Q : L2.St → Hp → Prop) : Prop := ∃ u v w, vs = [u, v, w] ∧ Q (((σ.set i (some u)).set j (some v)).set k (some w)) H
theorem rd_kp3 {Q : L2.St → Hp → Prop} {a b c : V} (h : Q (((σ.set i (some a)).set j (some b)).set k (some c)) H) : kp3 i j k [a, b, c] σ H Q := ⟨a, b, c, rfl, h⟩
theorem rd_par3 (h : l σ H fun vs H1 => kp3 i j k vs σ H1 D.nx) : tPar3 i j k l D σ H := h
theorem rd_aug {ti : TIp} (e : σ[i]? = some (some v)) (h : te σ H fun y H1 => ti v y H1 fun z H2 => D.nx (σ.set i (some z)) H2) : tAug i te ti D σ H := ⟨v, e, h⟩
theorem rd_for {wi : TI} {g : TG} {tb : TS} (h : wi σ H fun J H1 => ∃ W : Nat → Nat → L2.St → Hp → Prop, (∃ m, W 0 m σ H1) ∧ ∀ i m σ H, W i m σ H →
  (J.stop i H ∧ D.nx σ H) ∨ (J.go i H ∧ ∃ N : L2.St → Hp → Prop, (∀ σ' H', N σ' H' → ∃ m', m' < m ∧ W (i + 1) m' σ' H') ∧ ∀ x H', J.yld i H x H' → g x σ H' fun σ2 H2 => tb { D with nx := N, ct := N, bk := D.nx } σ2 H2)) : tFor wi g tb D σ H := h
theorem rd_gt {n : Nat} {g : TGs} {a : Addr} {xs : List V} {Q : L2.St → Hp → Prop} (h : SqT K H a xs) (e : xs.length = n) (q : g xs σ H Q) : gTup K n g (.ref a) σ H Q := ⟨a, xs, rfl, h, e, q⟩
theorem rd_gc {t : TG} {u : TGs} {xs : List V} {Q : L2.St → Hp → Prop} (h : t v σ H fun σ' H' => u xs σ' H' Q) : gCons t u (v :: xs) σ H Q := ⟨v, xs, rfl, h⟩
theorem rd_g0 {Q : L2.St → Hp → Prop} (h : Q σ H) : gNil [] σ H Q := ⟨rfl, h⟩
theorem rd_gs {to ti : TE} {st : TSet} {Q : L2.St → Hp → Prop} (h : to σ H fun o H1 => ti σ H1 fun i H2 => st o i v H2 fun H3 => Q σ H3) : gSub to ti st v σ H Q := h
end

section
variable {X : Cx}
theorem op_eqI : OpR X (compareOp .Eq) (rI0 fun i j => .bl (decide (i = j))) := opB0 fun _ _ _ _ _ _ _ q => eq_int (by rw [Bool.beq_eq_decide_eq]; exact q)
theorem op_neI : OpR X (compareOp .NotEq) (rI0 fun i j => .bl (!decide (i = j))) := opB0 fun _ _ _ _ _ _ _ q => ne_int (by rw [bne, Bool.beq_eq_decide_eq]; exact q)
end

theorem rd_lc {wi : TI} {g : TG} {tt : TT} {te : TE} {vs : List Nat} {σ : L2.St} {H : Hp} {Q : VK} (h : wi σ H fun J H1 => ∀ D, H1 D = none → ∃ W : Nat → Nat → Hp → Prop, (∃ m, W 0 m (upd H1 D (.lst []))) ∧ ∀ i m H, W i m H →
  (J.stop i H ∧ Q (.ref D) H) ∨ (J.go i H ∧ ∃ Nx : Hp → Prop, (∀ H', Nx H' → ∃ m', m' < m ∧ W (i + 1) m' H') ∧ ∀ x H', J.yld i H x H' → g x (wipe σ vs) H' fun σ2 H2 => wipe σ2 vs = wipe σ vs ∧ tt σ2 H2 fun b H3 =>
    if b = true then te σ2 H3 fun y H4 => ∃ acc, H4 D = some (.lst acc) ∧ acc.length < sizeLine ∧ Nx (upd H4 D (.lst (acc ++ [y]))) else Nx H3)) : tLc wi g tt te vs σ H Q := h
theorem rd_yes {σ : L2.St} {H : Hp} {Q : Bool → Hp → Prop} (h : Q true H) : tYes σ H Q := h

/-! ### isinstance; membership; is None -/
def rA : Rp V := fun _ x v => v = x
instance : Imm rA := ⟨fun _ h => h⟩
section
variable {α : Type} {K : PySem.W.Frag} {r : Rp α} {H : Hp} {Q : VK} {x : V} {a : Addr} {xs : List α} {S T : String} {b : Bool}
theorem isi_ty (hx : TyX K H x (.type S)) (e : kitB S T = some b) (q : Q (.bl b) H) : ap3 (rIsi K) [x, .ty T] H Q := ⟨x, .ty T, .type S, .type T, b, rfl, .ty T, hx, kit_ty e, q⟩
theorem ty_int {i : Int} : TyX K H (.int i) (.type "int") := .base (.int i)
theorem ty_bl {i : Bool} : TyX K H (.bl i) (.type "bool") := .base (.bl i)
theorem ty_str {i : Str} : TyX K H (.str i) (.type "str") := .base (.str i)
theorem ty_sqt {vs : List V} (h : SqT K H a vs) : TyX K H (.ref a) (.type "tuple") := by
  rcases h with (h | ⟨o, h⟩) | ⟨o, its, n, h, c, _⟩
  · exact .base (.tup h)
  · exact .fTuple h
  · exact .kTuple h c
theorem ty_T {v : V} (h : rT K r H xs v) : TyX K H v (.type "tuple") := by
  obtain ⟨a, rfl, vs, h1, _⟩ := h
  exact ty_sqt h1
theorem ty_P {β : Type} {s : Rp β} {p : α × β} {v : V} (h : rP K r s H p v) : TyX K H v (.type "tuple") := by
  obtain ⟨a, x, y, rfl, h, _⟩ := h
  exact ty_sqt h
theorem ty_L (h : Ls r H a xs) : TyX K H (.ref a) (.type "list") := by
  obtain ⟨vs, h1, _⟩ := h
  exact .base (.lst h1)
/-- a scalar of unknown kind -/
def scalV : V → Bool
  | .non => true | .bl _ => true | .int _ => true | .str _ => true
  | _ => false
def isIntV : V → Bool
  | .int _ => true | .bl _ => true
  | _ => false
def isBoolV : V → Bool
  | .bl _ => true
  | _ => false
theorem isi_intV (s : scalV x = true) (q : Q (.bl (isIntV x)) H) : ap3 (rIsi K) [x, .ty "int"] H Q := by
  cases x with
  | non => exact isi_ty (.base .non) (b := false) (by decide +kernel) q
  | bl i => exact isi_ty ty_bl (b := true) (by decide +kernel) q
  | int i => exact isi_ty ty_int (b := true) (by decide +kernel) q
  | str i => exact isi_ty ty_str (b := false) (by decide +kernel) q
  | _ => exact absurd (show false = true from s) Bool.false_ne_true
theorem isi_boolV (s : scalV x = true) (q : Q (.bl (isBoolV x)) H) : ap3 (rIsi K) [x, .ty "bool"] H Q := by
  cases x with
  | non => exact isi_ty (.base .non) (b := false) (by decide +kernel) q
  | bl i => exact isi_ty ty_bl (b := true) (by decide +kernel) q
  | int i => exact isi_ty ty_int (b := false) (by decide +kernel) q
  | str i => exact isi_ty ty_str (b := false) (by decide +kernel) q
  | _ => exact absurd (show false = true from s) Bool.false_ne_true
def rIsN : R2 := fun x y H Q => y = .non ∧ Q (.bl (decide (x = .non))) H
def rNotN : R2 := fun x y H Q => y = .non ∧ Q (.bl (!decide (x = .non))) H
theorem op_isN' {X : Cx} : OpR X (compareOp .Is) rIsN := op_isN
theorem op_notN' {X : Cx} : OpR X (compareOp .IsNot) rNotN := op_notN
theorem isN_opt {v : V} {o : Option α} (h : rO r H o v) (q : Q (.bl o.isNone) H) : rIsN v .non H Q := by
  refine ⟨rfl, ?_⟩
  cases o with
  | none =>
    rw [show v = V.non from h]
    exact q
  | some a =>
    rw [decide_eq_false h.1]
    exact q
theorem notN_opt {v : V} {o : Option α} (h : rO r H o v) (q : Q (.bl o.isSome) H) : rNotN v .non H Q := by
  refine ⟨rfl, ?_⟩
  cases o with
  | none =>
    rw [show v = V.non from h]
    exact q
  | some a =>
    rw [decide_eq_false h.1]
    exact q
end

section
variable {H : Hp} {Q : VK} {i j : Int}
theorem rd_abs (h : Q (.int (pabs i)) H) : ap3 (fun xs H Q => ∃ i, xs = [.int i] ∧ Q (.int (if i < 0 then -i else i)) H) [.int i] H Q := ⟨i, rfl, h⟩
theorem rd_int (h : Q (.int i) H) : ap3 (fun xs H Q => (∃ i, xs = [.int i] ∧ Q (.int i) H) ∨ ∃ k, xs = [.bl k] ∧ Q (.int (if k then 1 else 0)) H) [.int i] H Q := .inl ⟨i, rfl, h⟩
theorem rd_gcd (h : Q (.int (pgcd i j)) H) : ap3 rGcd [.int i, .int j] H Q := ⟨i, j, rfl, h⟩
theorem rd_ipI {f : Int → Int → Int} (h : Q (.int (f i j)) H) : ipI f (.int i) (.int j) H Q := ⟨i, j, rfl, rfl, h⟩
end

theorem cat_T {α : Type} {K : PySem.W.Frag} {r : Rp α} [Imm r] {H : Hp} {Q : VK} {xs ys : List α} {v w : V} (hx : rT K r H xs v) (hy : rT K r H ys w) (ne : xs.isEmpty = false) (l : lenOk (xs ++ ys)) (q : ∀ v H', Gr [] H H' → rT K r H' (xs ++ ys) v → Q v H') : rCatT K v w H Q := by
  obtain ⟨a, rfl, vs, h1, h2⟩ := hx
  obtain ⟨b, rfl, ws, h3, h4⟩ := hy
  refine ⟨a, b, vs, ws, rfl, rfl, h1, h3, ?_, ?_, ?_, ?_⟩
  · rintro rfl
    cases h2
    cases ne
  · rw [← Paired.length h2, ← Paired.length h4, ← List.length_append]
    exact l
  · rintro rfl
    cases h4
    rw [List.append_nil] at q
    exact q _ _ (Gr.refl H) ⟨a, rfl, vs, h1, h2⟩
  · intro _ p n
    exact q _ _ (Gr.new n) ⟨p, rfl, _, SqT.of upd_same, Paired.app (Paired.imm (Gr.new (A := []) n) h2) (Paired.imm (Gr.new (A := []) n) h4)⟩

section
variable {σ : L2.St} {H : Hp} {E : Er → Prop}
theorem ev_and3 {t0 t1 t2 : TT} {m0 m1 m2 : R Bool} (h0 : EvT t0 σ H m0 E) (h1 : ∀ H', Gr [] H H' → EvT t1 σ H' m1 E) (h2 : ∀ H', Gr [] H H' → EvT t2 σ H' m2 E) : EvT (tAnd t0 (tAnd t1 t2)) σ H (andR m0 (andR m1 m2)) E := ev_and h0 (fun H1 g1 => ev_and (h1 H1 g1) (fun H2 k2 => (have g2 := g1.trans k2; h2 H2 g2)))
theorem ev_and4 {t0 t1 t2 t3 : TT} {m0 m1 m2 m3 : R Bool} (h0 : EvT t0 σ H m0 E) (h1 : ∀ H', Gr [] H H' → EvT t1 σ H' m1 E) (h2 : ∀ H', Gr [] H H' → EvT t2 σ H' m2 E) (h3 : ∀ H', Gr [] H H' → EvT t3 σ H' m3 E) : EvT (tAnd t0 (tAnd t1 (tAnd t2 t3))) σ H (andR m0 (andR m1 (andR m2 m3))) E := ev_and h0 (fun H1 g1 => ev_and (h1 H1 g1) (fun H2 k2 => (have g2 := g1.trans k2; ev_and (h2 H2 g2) (fun H3 k3 => (have g3 := g2.trans k3; h3 H3 g3)))))
theorem ev_and5 {t0 t1 t2 t3 t4 : TT} {m0 m1 m2 m3 m4 : R Bool} (h0 : EvT t0 σ H m0 E) (h1 : ∀ H', Gr [] H H' → EvT t1 σ H' m1 E) (h2 : ∀ H', Gr [] H H' → EvT t2 σ H' m2 E) (h3 : ∀ H', Gr [] H H' → EvT t3 σ H' m3 E) (h4 : ∀ H', Gr [] H H' → EvT t4 σ H' m4 E) : EvT (tAnd t0 (tAnd t1 (tAnd t2 (tAnd t3 t4)))) σ H (andR m0 (andR m1 (andR m2 (andR m3 m4)))) E := ev_and h0 (fun H1 g1 => ev_and (h1 H1 g1) (fun H2 k2 => (have g2 := g1.trans k2; ev_and (h2 H2 g2) (fun H3 k3 => (have g3 := g2.trans k3; ev_and (h3 H3 g3) (fun H4 k4 => (have g4 := g3.trans k4; h4 H4 g4)))))))
theorem ev_and6 {t0 t1 t2 t3 t4 t5 : TT} {m0 m1 m2 m3 m4 m5 : R Bool} (h0 : EvT t0 σ H m0 E) (h1 : ∀ H', Gr [] H H' → EvT t1 σ H' m1 E) (h2 : ∀ H', Gr [] H H' → EvT t2 σ H' m2 E) (h3 : ∀ H', Gr [] H H' → EvT t3 σ H' m3 E) (h4 : ∀ H', Gr [] H H' → EvT t4 σ H' m4 E) (h5 : ∀ H', Gr [] H H' → EvT t5 σ H' m5 E) : EvT (tAnd t0 (tAnd t1 (tAnd t2 (tAnd t3 (tAnd t4 t5))))) σ H (andR m0 (andR m1 (andR m2 (andR m3 (andR m4 m5))))) E := ev_and h0 (fun H1 g1 => ev_and (h1 H1 g1) (fun H2 k2 => (have g2 := g1.trans k2; ev_and (h2 H2 g2) (fun H3 k3 => (have g3 := g2.trans k3; ev_and (h3 H3 g3) (fun H4 k4 => (have g4 := g3.trans k4; ev_and (h4 H4 g4) (fun H5 k5 => (have g5 := g4.trans k5; h5 H5 g5)))))))))
theorem ev_and7 {t0 t1 t2 t3 t4 t5 t6 : TT} {m0 m1 m2 m3 m4 m5 m6 : R Bool} (h0 : EvT t0 σ H m0 E) (h1 : ∀ H', Gr [] H H' → EvT t1 σ H' m1 E) (h2 : ∀ H', Gr [] H H' → EvT t2 σ H' m2 E) (h3 : ∀ H', Gr [] H H' → EvT t3 σ H' m3 E) (h4 : ∀ H', Gr [] H H' → EvT t4 σ H' m4 E) (h5 : ∀ H', Gr [] H H' → EvT t5 σ H' m5 E) (h6 : ∀ H', Gr [] H H' → EvT t6 σ H' m6 E) : EvT (tAnd t0 (tAnd t1 (tAnd t2 (tAnd t3 (tAnd t4 (tAnd t5 t6)))))) σ H (andR m0 (andR m1 (andR m2 (andR m3 (andR m4 (andR m5 m6)))))) E := ev_and h0 (fun H1 g1 => ev_and (h1 H1 g1) (fun H2 k2 => (have g2 := g1.trans k2; ev_and (h2 H2 g2) (fun H3 k3 => (have g3 := g2.trans k3; ev_and (h3 H3 g3) (fun H4 k4 => (have g4 := g3.trans k4; ev_and (h4 H4 g4) (fun H5 k5 => (have g5 := g4.trans k5; ev_and (h5 H5 g5) (fun H6 k6 => (have g6 := g5.trans k6; h6 H6 g6)))))))))))
theorem ev_and8 {t0 t1 t2 t3 t4 t5 t6 t7 : TT} {m0 m1 m2 m3 m4 m5 m6 m7 : R Bool} (h0 : EvT t0 σ H m0 E) (h1 : ∀ H', Gr [] H H' → EvT t1 σ H' m1 E) (h2 : ∀ H', Gr [] H H' → EvT t2 σ H' m2 E) (h3 : ∀ H', Gr [] H H' → EvT t3 σ H' m3 E) (h4 : ∀ H', Gr [] H H' → EvT t4 σ H' m4 E) (h5 : ∀ H', Gr [] H H' → EvT t5 σ H' m5 E) (h6 : ∀ H', Gr [] H H' → EvT t6 σ H' m6 E) (h7 : ∀ H', Gr [] H H' → EvT t7 σ H' m7 E) : EvT (tAnd t0 (tAnd t1 (tAnd t2 (tAnd t3 (tAnd t4 (tAnd t5 (tAnd t6 t7))))))) σ H (andR m0 (andR m1 (andR m2 (andR m3 (andR m4 (andR m5 (andR m6 m7))))))) E := ev_and h0 (fun H1 g1 => ev_and (h1 H1 g1) (fun H2 k2 => (have g2 := g1.trans k2; ev_and (h2 H2 g2) (fun H3 k3 => (have g3 := g2.trans k3; ev_and (h3 H3 g3) (fun H4 k4 => (have g4 := g3.trans k4; ev_and (h4 H4 g4) (fun H5 k5 => (have g5 := g4.trans k5; ev_and (h5 H5 g5) (fun H6 k6 => (have g6 := g5.trans k6; ev_and (h6 H6 g6) (fun H7 k7 => (have g7 := g6.trans k7; h7 H7 g7)))))))))))))
theorem ev_and9 {t0 t1 t2 t3 t4 t5 t6 t7 t8 : TT} {m0 m1 m2 m3 m4 m5 m6 m7 m8 : R Bool} (h0 : EvT t0 σ H m0 E) (h1 : ∀ H', Gr [] H H' → EvT t1 σ H' m1 E) (h2 : ∀ H', Gr [] H H' → EvT t2 σ H' m2 E) (h3 : ∀ H', Gr [] H H' → EvT t3 σ H' m3 E) (h4 : ∀ H', Gr [] H H' → EvT t4 σ H' m4 E) (h5 : ∀ H', Gr [] H H' → EvT t5 σ H' m5 E) (h6 : ∀ H', Gr [] H H' → EvT t6 σ H' m6 E) (h7 : ∀ H', Gr [] H H' → EvT t7 σ H' m7 E) (h8 : ∀ H', Gr [] H H' → EvT t8 σ H' m8 E) : EvT (tAnd t0 (tAnd t1 (tAnd t2 (tAnd t3 (tAnd t4 (tAnd t5 (tAnd t6 (tAnd t7 t8)))))))) σ H (andR m0 (andR m1 (andR m2 (andR m3 (andR m4 (andR m5 (andR m6 (andR m7 m8)))))))) E := ev_and h0 (fun H1 g1 => ev_and (h1 H1 g1) (fun H2 k2 => (have g2 := g1.trans k2; ev_and (h2 H2 g2) (fun H3 k3 => (have g3 := g2.trans k3; ev_and (h3 H3 g3) (fun H4 k4 => (have g4 := g3.trans k4; ev_and (h4 H4 g4) (fun H5 k5 => (have g5 := g4.trans k5; ev_and (h5 H5 g5) (fun H6 k6 => (have g6 := g5.trans k6; ev_and (h6 H6 g6) (fun H7 k7 => (have g7 := g6.trans k7; ev_and (h7 H7 g7) (fun H8 k8 => (have g8 := g7.trans k8; h8 H8 g8)))))))))))))))
theorem ev_andV3 {t0 t1 t2 : TE} {m0 m1 m2 : R Bool} (h0 : EvV rB t0 σ H m0 E) (h1 : ∀ H', Gr [] H H' → EvV rB t1 σ H' m1 E) (h2 : ∀ H', Gr [] H H' → EvV rB t2 σ H' m2 E) : EvV rB (tAndV t0 (tAndV t1 t2)) σ H (andR m0 (andR m1 m2)) E := ev_andV h0 (fun H1 g1 => ev_andV (h1 H1 g1) (fun H2 k2 => (have g2 := g1.trans k2; h2 H2 g2)))
theorem ev_andV4 {t0 t1 t2 t3 : TE} {m0 m1 m2 m3 : R Bool} (h0 : EvV rB t0 σ H m0 E) (h1 : ∀ H', Gr [] H H' → EvV rB t1 σ H' m1 E) (h2 : ∀ H', Gr [] H H' → EvV rB t2 σ H' m2 E) (h3 : ∀ H', Gr [] H H' → EvV rB t3 σ H' m3 E) : EvV rB (tAndV t0 (tAndV t1 (tAndV t2 t3))) σ H (andR m0 (andR m1 (andR m2 m3))) E := ev_andV h0 (fun H1 g1 => ev_andV (h1 H1 g1) (fun H2 k2 => (have g2 := g1.trans k2; ev_andV (h2 H2 g2) (fun H3 k3 => (have g3 := g2.trans k3; h3 H3 g3)))))
theorem ev_andV5 {t0 t1 t2 t3 t4 : TE} {m0 m1 m2 m3 m4 : R Bool} (h0 : EvV rB t0 σ H m0 E) (h1 : ∀ H', Gr [] H H' → EvV rB t1 σ H' m1 E) (h2 : ∀ H', Gr [] H H' → EvV rB t2 σ H' m2 E) (h3 : ∀ H', Gr [] H H' → EvV rB t3 σ H' m3 E) (h4 : ∀ H', Gr [] H H' → EvV rB t4 σ H' m4 E) : EvV rB (tAndV t0 (tAndV t1 (tAndV t2 (tAndV t3 t4)))) σ H (andR m0 (andR m1 (andR m2 (andR m3 m4)))) E := ev_andV h0 (fun H1 g1 => ev_andV (h1 H1 g1) (fun H2 k2 => (have g2 := g1.trans k2; ev_andV (h2 H2 g2) (fun H3 k3 => (have g3 := g2.trans k3; ev_andV (h3 H3 g3) (fun H4 k4 => (have g4 := g3.trans k4; h4 H4 g4)))))))
theorem ev_andV6 {t0 t1 t2 t3 t4 t5 : TE} {m0 m1 m2 m3 m4 m5 : R Bool} (h0 : EvV rB t0 σ H m0 E) (h1 : ∀ H', Gr [] H H' → EvV rB t1 σ H' m1 E) (h2 : ∀ H', Gr [] H H' → EvV rB t2 σ H' m2 E) (h3 : ∀ H', Gr [] H H' → EvV rB t3 σ H' m3 E) (h4 : ∀ H', Gr [] H H' → EvV rB t4 σ H' m4 E) (h5 : ∀ H', Gr [] H H' → EvV rB t5 σ H' m5 E) : EvV rB (tAndV t0 (tAndV t1 (tAndV t2 (tAndV t3 (tAndV t4 t5))))) σ H (andR m0 (andR m1 (andR m2 (andR m3 (andR m4 m5))))) E := ev_andV h0 (fun H1 g1 => ev_andV (h1 H1 g1) (fun H2 k2 => (have g2 := g1.trans k2; ev_andV (h2 H2 g2) (fun H3 k3 => (have g3 := g2.trans k3; ev_andV (h3 H3 g3) (fun H4 k4 => (have g4 := g3.trans k4; ev_andV (h4 H4 g4) (fun H5 k5 => (have g5 := g4.trans k5; h5 H5 g5)))))))))
theorem ev_andV7 {t0 t1 t2 t3 t4 t5 t6 : TE} {m0 m1 m2 m3 m4 m5 m6 : R Bool} (h0 : EvV rB t0 σ H m0 E) (h1 : ∀ H', Gr [] H H' → EvV rB t1 σ H' m1 E) (h2 : ∀ H', Gr [] H H' → EvV rB t2 σ H' m2 E) (h3 : ∀ H', Gr [] H H' → EvV rB t3 σ H' m3 E) (h4 : ∀ H', Gr [] H H' → EvV rB t4 σ H' m4 E) (h5 : ∀ H', Gr [] H H' → EvV rB t5 σ H' m5 E) (h6 : ∀ H', Gr [] H H' → EvV rB t6 σ H' m6 E) : EvV rB (tAndV t0 (tAndV t1 (tAndV t2 (tAndV t3 (tAndV t4 (tAndV t5 t6)))))) σ H (andR m0 (andR m1 (andR m2 (andR m3 (andR m4 (andR m5 m6)))))) E := ev_andV h0 (fun H1 g1 => ev_andV (h1 H1 g1) (fun H2 k2 => (have g2 := g1.trans k2; ev_andV (h2 H2 g2) (fun H3 k3 => (have g3 := g2.trans k3; ev_andV (h3 H3 g3) (fun H4 k4 => (have g4 := g3.trans k4; ev_andV (h4 H4 g4) (fun H5 k5 => (have g5 := g4.trans k5; ev_andV (h5 H5 g5) (fun H6 k6 => (have g6 := g5.trans k6; h6 H6 g6)))))))))))
theorem ev_andV8 {t0 t1 t2 t3 t4 t5 t6 t7 : TE} {m0 m1 m2 m3 m4 m5 m6 m7 : R Bool} (h0 : EvV rB t0 σ H m0 E) (h1 : ∀ H', Gr [] H H' → EvV rB t1 σ H' m1 E) (h2 : ∀ H', Gr [] H H' → EvV rB t2 σ H' m2 E) (h3 : ∀ H', Gr [] H H' → EvV rB t3 σ H' m3 E) (h4 : ∀ H', Gr [] H H' → EvV rB t4 σ H' m4 E) (h5 : ∀ H', Gr [] H H' → EvV rB t5 σ H' m5 E) (h6 : ∀ H', Gr [] H H' → EvV rB t6 σ H' m6 E) (h7 : ∀ H', Gr [] H H' → EvV rB t7 σ H' m7 E) : EvV rB (tAndV t0 (tAndV t1 (tAndV t2 (tAndV t3 (tAndV t4 (tAndV t5 (tAndV t6 t7))))))) σ H (andR m0 (andR m1 (andR m2 (andR m3 (andR m4 (andR m5 (andR m6 m7))))))) E := ev_andV h0 (fun H1 g1 => ev_andV (h1 H1 g1) (fun H2 k2 => (have g2 := g1.trans k2; ev_andV (h2 H2 g2) (fun H3 k3 => (have g3 := g2.trans k3; ev_andV (h3 H3 g3) (fun H4 k4 => (have g4 := g3.trans k4; ev_andV (h4 H4 g4) (fun H5 k5 => (have g5 := g4.trans k5; ev_andV (h5 H5 g5) (fun H6 k6 => (have g6 := g5.trans k6; ev_andV (h6 H6 g6) (fun H7 k7 => (have g7 := g6.trans k7; h7 H7 g7)))))))))))))
theorem ev_andV9 {t0 t1 t2 t3 t4 t5 t6 t7 t8 : TE} {m0 m1 m2 m3 m4 m5 m6 m7 m8 : R Bool} (h0 : EvV rB t0 σ H m0 E) (h1 : ∀ H', Gr [] H H' → EvV rB t1 σ H' m1 E) (h2 : ∀ H', Gr [] H H' → EvV rB t2 σ H' m2 E) (h3 : ∀ H', Gr [] H H' → EvV rB t3 σ H' m3 E) (h4 : ∀ H', Gr [] H H' → EvV rB t4 σ H' m4 E) (h5 : ∀ H', Gr [] H H' → EvV rB t5 σ H' m5 E) (h6 : ∀ H', Gr [] H H' → EvV rB t6 σ H' m6 E) (h7 : ∀ H', Gr [] H H' → EvV rB t7 σ H' m7 E) (h8 : ∀ H', Gr [] H H' → EvV rB t8 σ H' m8 E) : EvV rB (tAndV t0 (tAndV t1 (tAndV t2 (tAndV t3 (tAndV t4 (tAndV t5 (tAndV t6 (tAndV t7 t8)))))))) σ H (andR m0 (andR m1 (andR m2 (andR m3 (andR m4 (andR m5 (andR m6 (andR m7 m8)))))))) E := ev_andV h0 (fun H1 g1 => ev_andV (h1 H1 g1) (fun H2 k2 => (have g2 := g1.trans k2; ev_andV (h2 H2 g2) (fun H3 k3 => (have g3 := g2.trans k3; ev_andV (h3 H3 g3) (fun H4 k4 => (have g4 := g3.trans k4; ev_andV (h4 H4 g4) (fun H5 k5 => (have g5 := g4.trans k5; ev_andV (h5 H5 g5) (fun H6 k6 => (have g6 := g5.trans k6; ev_andV (h6 H6 g6) (fun H7 k7 => (have g7 := g6.trans k7; ev_andV (h7 H7 g7) (fun H8 k8 => (have g8 := g7.trans k8; h8 H8 g8)))))))))))))))
theorem ev_or3 {t0 t1 t2 : TT} {m0 m1 m2 : R Bool} (h0 : EvT t0 σ H m0 E) (h1 : ∀ H', Gr [] H H' → EvT t1 σ H' m1 E) (h2 : ∀ H', Gr [] H H' → EvT t2 σ H' m2 E) : EvT (tOr t0 (tOr t1 t2)) σ H (orR m0 (orR m1 m2)) E := ev_or h0 (fun H1 g1 => ev_or (h1 H1 g1) (fun H2 k2 => (have g2 := g1.trans k2; h2 H2 g2)))
theorem ev_or4 {t0 t1 t2 t3 : TT} {m0 m1 m2 m3 : R Bool} (h0 : EvT t0 σ H m0 E) (h1 : ∀ H', Gr [] H H' → EvT t1 σ H' m1 E) (h2 : ∀ H', Gr [] H H' → EvT t2 σ H' m2 E) (h3 : ∀ H', Gr [] H H' → EvT t3 σ H' m3 E) : EvT (tOr t0 (tOr t1 (tOr t2 t3))) σ H (orR m0 (orR m1 (orR m2 m3))) E := ev_or h0 (fun H1 g1 => ev_or (h1 H1 g1) (fun H2 k2 => (have g2 := g1.trans k2; ev_or (h2 H2 g2) (fun H3 k3 => (have g3 := g2.trans k3; h3 H3 g3)))))
theorem ev_or5 {t0 t1 t2 t3 t4 : TT} {m0 m1 m2 m3 m4 : R Bool} (h0 : EvT t0 σ H m0 E) (h1 : ∀ H', Gr [] H H' → EvT t1 σ H' m1 E) (h2 : ∀ H', Gr [] H H' → EvT t2 σ H' m2 E) (h3 : ∀ H', Gr [] H H' → EvT t3 σ H' m3 E) (h4 : ∀ H', Gr [] H H' → EvT t4 σ H' m4 E) : EvT (tOr t0 (tOr t1 (tOr t2 (tOr t3 t4)))) σ H (orR m0 (orR m1 (orR m2 (orR m3 m4)))) E := ev_or h0 (fun H1 g1 => ev_or (h1 H1 g1) (fun H2 k2 => (have g2 := g1.trans k2; ev_or (h2 H2 g2) (fun H3 k3 => (have g3 := g2.trans k3; ev_or (h3 H3 g3) (fun H4 k4 => (have g4 := g3.trans k4; h4 H4 g4)))))))
theorem ev_or6 {t0 t1 t2 t3 t4 t5 : TT} {m0 m1 m2 m3 m4 m5 : R Bool} (h0 : EvT t0 σ H m0 E) (h1 : ∀ H', Gr [] H H' → EvT t1 σ H' m1 E) (h2 : ∀ H', Gr [] H H' → EvT t2 σ H' m2 E) (h3 : ∀ H', Gr [] H H' → EvT t3 σ H' m3 E) (h4 : ∀ H', Gr [] H H' → EvT t4 σ H' m4 E) (h5 : ∀ H', Gr [] H H' → EvT t5 σ H' m5 E) : EvT (tOr t0 (tOr t1 (tOr t2 (tOr t3 (tOr t4 t5))))) σ H (orR m0 (orR m1 (orR m2 (orR m3 (orR m4 m5))))) E := ev_or h0 (fun H1 g1 => ev_or (h1 H1 g1) (fun H2 k2 => (have g2 := g1.trans k2; ev_or (h2 H2 g2) (fun H3 k3 => (have g3 := g2.trans k3; ev_or (h3 H3 g3) (fun H4 k4 => (have g4 := g3.trans k4; ev_or (h4 H4 g4) (fun H5 k5 => (have g5 := g4.trans k5; h5 H5 g5)))))))))
theorem ev_or7 {t0 t1 t2 t3 t4 t5 t6 : TT} {m0 m1 m2 m3 m4 m5 m6 : R Bool} (h0 : EvT t0 σ H m0 E) (h1 : ∀ H', Gr [] H H' → EvT t1 σ H' m1 E) (h2 : ∀ H', Gr [] H H' → EvT t2 σ H' m2 E) (h3 : ∀ H', Gr [] H H' → EvT t3 σ H' m3 E) (h4 : ∀ H', Gr [] H H' → EvT t4 σ H' m4 E) (h5 : ∀ H', Gr [] H H' → EvT t5 σ H' m5 E) (h6 : ∀ H', Gr [] H H' → EvT t6 σ H' m6 E) : EvT (tOr t0 (tOr t1 (tOr t2 (tOr t3 (tOr t4 (tOr t5 t6)))))) σ H (orR m0 (orR m1 (orR m2 (orR m3 (orR m4 (orR m5 m6)))))) E := ev_or h0 (fun H1 g1 => ev_or (h1 H1 g1) (fun H2 k2 => (have g2 := g1.trans k2; ev_or (h2 H2 g2) (fun H3 k3 => (have g3 := g2.trans k3; ev_or (h3 H3 g3) (fun H4 k4 => (have g4 := g3.trans k4; ev_or (h4 H4 g4) (fun H5 k5 => (have g5 := g4.trans k5; ev_or (h5 H5 g5) (fun H6 k6 => (have g6 := g5.trans k6; h6 H6 g6)))))))))))
theorem ev_or8 {t0 t1 t2 t3 t4 t5 t6 t7 : TT} {m0 m1 m2 m3 m4 m5 m6 m7 : R Bool} (h0 : EvT t0 σ H m0 E) (h1 : ∀ H', Gr [] H H' → EvT t1 σ H' m1 E) (h2 : ∀ H', Gr [] H H' → EvT t2 σ H' m2 E) (h3 : ∀ H', Gr [] H H' → EvT t3 σ H' m3 E) (h4 : ∀ H', Gr [] H H' → EvT t4 σ H' m4 E) (h5 : ∀ H', Gr [] H H' → EvT t5 σ H' m5 E) (h6 : ∀ H', Gr [] H H' → EvT t6 σ H' m6 E) (h7 : ∀ H', Gr [] H H' → EvT t7 σ H' m7 E) : EvT (tOr t0 (tOr t1 (tOr t2 (tOr t3 (tOr t4 (tOr t5 (tOr t6 t7))))))) σ H (orR m0 (orR m1 (orR m2 (orR m3 (orR m4 (orR m5 (orR m6 m7))))))) E := ev_or h0 (fun H1 g1 => ev_or (h1 H1 g1) (fun H2 k2 => (have g2 := g1.trans k2; ev_or (h2 H2 g2) (fun H3 k3 => (have g3 := g2.trans k3; ev_or (h3 H3 g3) (fun H4 k4 => (have g4 := g3.trans k4; ev_or (h4 H4 g4) (fun H5 k5 => (have g5 := g4.trans k5; ev_or (h5 H5 g5) (fun H6 k6 => (have g6 := g5.trans k6; ev_or (h6 H6 g6) (fun H7 k7 => (have g7 := g6.trans k7; h7 H7 g7)))))))))))))
theorem ev_or9 {t0 t1 t2 t3 t4 t5 t6 t7 t8 : TT} {m0 m1 m2 m3 m4 m5 m6 m7 m8 : R Bool} (h0 : EvT t0 σ H m0 E) (h1 : ∀ H', Gr [] H H' → EvT t1 σ H' m1 E) (h2 : ∀ H', Gr [] H H' → EvT t2 σ H' m2 E) (h3 : ∀ H', Gr [] H H' → EvT t3 σ H' m3 E) (h4 : ∀ H', Gr [] H H' → EvT t4 σ H' m4 E) (h5 : ∀ H', Gr [] H H' → EvT t5 σ H' m5 E) (h6 : ∀ H', Gr [] H H' → EvT t6 σ H' m6 E) (h7 : ∀ H', Gr [] H H' → EvT t7 σ H' m7 E) (h8 : ∀ H', Gr [] H H' → EvT t8 σ H' m8 E) : EvT (tOr t0 (tOr t1 (tOr t2 (tOr t3 (tOr t4 (tOr t5 (tOr t6 (tOr t7 t8)))))))) σ H (orR m0 (orR m1 (orR m2 (orR m3 (orR m4 (orR m5 (orR m6 (orR m7 m8)))))))) E := ev_or h0 (fun H1 g1 => ev_or (h1 H1 g1) (fun H2 k2 => (have g2 := g1.trans k2; ev_or (h2 H2 g2) (fun H3 k3 => (have g3 := g2.trans k3; ev_or (h3 H3 g3) (fun H4 k4 => (have g4 := g3.trans k4; ev_or (h4 H4 g4) (fun H5 k5 => (have g5 := g4.trans k5; ev_or (h5 H5 g5) (fun H6 k6 => (have g6 := g5.trans k6; ev_or (h6 H6 g6) (fun H7 k7 => (have g7 := g6.trans k7; ev_or (h7 H7 g7) (fun H8 k8 => (have g8 := g7.trans k8; h8 H8 g8)))))))))))))))
theorem ev_orV3 {t0 t1 t2 : TE} {m0 m1 m2 : R Bool} (h0 : EvV rB t0 σ H m0 E) (h1 : ∀ H', Gr [] H H' → EvV rB t1 σ H' m1 E) (h2 : ∀ H', Gr [] H H' → EvV rB t2 σ H' m2 E) : EvV rB (tOrV t0 (tOrV t1 t2)) σ H (orR m0 (orR m1 m2)) E := ev_orV h0 (fun H1 g1 => ev_orV (h1 H1 g1) (fun H2 k2 => (have g2 := g1.trans k2; h2 H2 g2)))
theorem ev_orV4 {t0 t1 t2 t3 : TE} {m0 m1 m2 m3 : R Bool} (h0 : EvV rB t0 σ H m0 E) (h1 : ∀ H', Gr [] H H' → EvV rB t1 σ H' m1 E) (h2 : ∀ H', Gr [] H H' → EvV rB t2 σ H' m2 E) (h3 : ∀ H', Gr [] H H' → EvV rB t3 σ H' m3 E) : EvV rB (tOrV t0 (tOrV t1 (tOrV t2 t3))) σ H (orR m0 (orR m1 (orR m2 m3))) E := ev_orV h0 (fun H1 g1 => ev_orV (h1 H1 g1) (fun H2 k2 => (have g2 := g1.trans k2; ev_orV (h2 H2 g2) (fun H3 k3 => (have g3 := g2.trans k3; h3 H3 g3)))))
theorem ev_orV5 {t0 t1 t2 t3 t4 : TE} {m0 m1 m2 m3 m4 : R Bool} (h0 : EvV rB t0 σ H m0 E) (h1 : ∀ H', Gr [] H H' → EvV rB t1 σ H' m1 E) (h2 : ∀ H', Gr [] H H' → EvV rB t2 σ H' m2 E) (h3 : ∀ H', Gr [] H H' → EvV rB t3 σ H' m3 E) (h4 : ∀ H', Gr [] H H' → EvV rB t4 σ H' m4 E) : EvV rB (tOrV t0 (tOrV t1 (tOrV t2 (tOrV t3 t4)))) σ H (orR m0 (orR m1 (orR m2 (orR m3 m4)))) E := ev_orV h0 (fun H1 g1 => ev_orV (h1 H1 g1) (fun H2 k2 => (have g2 := g1.trans k2; ev_orV (h2 H2 g2) (fun H3 k3 => (have g3 := g2.trans k3; ev_orV (h3 H3 g3) (fun H4 k4 => (have g4 := g3.trans k4; h4 H4 g4)))))))
theorem ev_orV6 {t0 t1 t2 t3 t4 t5 : TE} {m0 m1 m2 m3 m4 m5 : R Bool} (h0 : EvV rB t0 σ H m0 E) (h1 : ∀ H', Gr [] H H' → EvV rB t1 σ H' m1 E) (h2 : ∀ H', Gr [] H H' → EvV rB t2 σ H' m2 E) (h3 : ∀ H', Gr [] H H' → EvV rB t3 σ H' m3 E) (h4 : ∀ H', Gr [] H H' → EvV rB t4 σ H' m4 E) (h5 : ∀ H', Gr [] H H' → EvV rB t5 σ H' m5 E) : EvV rB (tOrV t0 (tOrV t1 (tOrV t2 (tOrV t3 (tOrV t4 t5))))) σ H (orR m0 (orR m1 (orR m2 (orR m3 (orR m4 m5))))) E := ev_orV h0 (fun H1 g1 => ev_orV (h1 H1 g1) (fun H2 k2 => (have g2 := g1.trans k2; ev_orV (h2 H2 g2) (fun H3 k3 => (have g3 := g2.trans k3; ev_orV (h3 H3 g3) (fun H4 k4 => (have g4 := g3.trans k4; ev_orV (h4 H4 g4) (fun H5 k5 => (have g5 := g4.trans k5; h5 H5 g5)))))))))
theorem ev_orV7 {t0 t1 t2 t3 t4 t5 t6 : TE} {m0 m1 m2 m3 m4 m5 m6 : R Bool} (h0 : EvV rB t0 σ H m0 E) (h1 : ∀ H', Gr [] H H' → EvV rB t1 σ H' m1 E) (h2 : ∀ H', Gr [] H H' → EvV rB t2 σ H' m2 E) (h3 : ∀ H', Gr [] H H' → EvV rB t3 σ H' m3 E) (h4 : ∀ H', Gr [] H H' → EvV rB t4 σ H' m4 E) (h5 : ∀ H', Gr [] H H' → EvV rB t5 σ H' m5 E) (h6 : ∀ H', Gr [] H H' → EvV rB t6 σ H' m6 E) : EvV rB (tOrV t0 (tOrV t1 (tOrV t2 (tOrV t3 (tOrV t4 (tOrV t5 t6)))))) σ H (orR m0 (orR m1 (orR m2 (orR m3 (orR m4 (orR m5 m6)))))) E := ev_orV h0 (fun H1 g1 => ev_orV (h1 H1 g1) (fun H2 k2 => (have g2 := g1.trans k2; ev_orV (h2 H2 g2) (fun H3 k3 => (have g3 := g2.trans k3; ev_orV (h3 H3 g3) (fun H4 k4 => (have g4 := g3.trans k4; ev_orV (h4 H4 g4) (fun H5 k5 => (have g5 := g4.trans k5; ev_orV (h5 H5 g5) (fun H6 k6 => (have g6 := g5.trans k6; h6 H6 g6)))))))))))
theorem ev_orV8 {t0 t1 t2 t3 t4 t5 t6 t7 : TE} {m0 m1 m2 m3 m4 m5 m6 m7 : R Bool} (h0 : EvV rB t0 σ H m0 E) (h1 : ∀ H', Gr [] H H' → EvV rB t1 σ H' m1 E) (h2 : ∀ H', Gr [] H H' → EvV rB t2 σ H' m2 E) (h3 : ∀ H', Gr [] H H' → EvV rB t3 σ H' m3 E) (h4 : ∀ H', Gr [] H H' → EvV rB t4 σ H' m4 E) (h5 : ∀ H', Gr [] H H' → EvV rB t5 σ H' m5 E) (h6 : ∀ H', Gr [] H H' → EvV rB t6 σ H' m6 E) (h7 : ∀ H', Gr [] H H' → EvV rB t7 σ H' m7 E) : EvV rB (tOrV t0 (tOrV t1 (tOrV t2 (tOrV t3 (tOrV t4 (tOrV t5 (tOrV t6 t7))))))) σ H (orR m0 (orR m1 (orR m2 (orR m3 (orR m4 (orR m5 (orR m6 m7))))))) E := ev_orV h0 (fun H1 g1 => ev_orV (h1 H1 g1) (fun H2 k2 => (have g2 := g1.trans k2; ev_orV (h2 H2 g2) (fun H3 k3 => (have g3 := g2.trans k3; ev_orV (h3 H3 g3) (fun H4 k4 => (have g4 := g3.trans k4; ev_orV (h4 H4 g4) (fun H5 k5 => (have g5 := g4.trans k5; ev_orV (h5 H5 g5) (fun H6 k6 => (have g6 := g5.trans k6; ev_orV (h6 H6 g6) (fun H7 k7 => (have g7 := g6.trans k7; h7 H7 g7)))))))))))))
theorem ev_orV9 {t0 t1 t2 t3 t4 t5 t6 t7 t8 : TE} {m0 m1 m2 m3 m4 m5 m6 m7 m8 : R Bool} (h0 : EvV rB t0 σ H m0 E) (h1 : ∀ H', Gr [] H H' → EvV rB t1 σ H' m1 E) (h2 : ∀ H', Gr [] H H' → EvV rB t2 σ H' m2 E) (h3 : ∀ H', Gr [] H H' → EvV rB t3 σ H' m3 E) (h4 : ∀ H', Gr [] H H' → EvV rB t4 σ H' m4 E) (h5 : ∀ H', Gr [] H H' → EvV rB t5 σ H' m5 E) (h6 : ∀ H', Gr [] H H' → EvV rB t6 σ H' m6 E) (h7 : ∀ H', Gr [] H H' → EvV rB t7 σ H' m7 E) (h8 : ∀ H', Gr [] H H' → EvV rB t8 σ H' m8 E) : EvV rB (tOrV t0 (tOrV t1 (tOrV t2 (tOrV t3 (tOrV t4 (tOrV t5 (tOrV t6 (tOrV t7 t8)))))))) σ H (orR m0 (orR m1 (orR m2 (orR m3 (orR m4 (orR m5 (orR m6 (orR m7 m8)))))))) E := ev_orV h0 (fun H1 g1 => ev_orV (h1 H1 g1) (fun H2 k2 => (have g2 := g1.trans k2; ev_orV (h2 H2 g2) (fun H3 k3 => (have g3 := g2.trans k3; ev_orV (h3 H3 g3) (fun H4 k4 => (have g4 := g3.trans k4; ev_orV (h4 H4 g4) (fun H5 k5 => (have g5 := g4.trans k5; ev_orV (h5 H5 g5) (fun H6 k6 => (have g6 := g5.trans k6; ev_orV (h6 H6 g6) (fun H7 k7 => (have g7 := g6.trans k7; ev_orV (h7 H7 g7) (fun H8 k8 => (have g8 := g7.trans k8; h8 H8 g8)))))))))))))))
end
end Mir
set_option Elab.async false
set_option linter.all false
set_option maxRecDepth 100000
namespace Mir
open PySem PySem.Spec PyProof.Rows L2
variable [Nm]
/-! ### errors of the program: the classes that a law's text holds -/
structure Xc where
  fault : Option Addr
  zd : Option Addr
  mal : Option Addr
  refu : Option Addr
  nt : Option Addr
def xe0 (c : Option Addr) (A : List Addr) (H : Hp) (E : XK) : Prop := ∃ a, c = some a ∧ ∀ H', Gr A H H' → E (.ref a) none H'
def xe1 (c : Option Addr) (f : Str) (v : V) (A : List Addr) (H : Hp) (E : XK) : Prop := ∃ a, c = some a ∧ ∀ d H', Gr A H H' → H' d = some (.xd [(f, v)]) → E (.ref a) (some d) H'
def XEr (C : Xc) (A : List Addr) (H : Hp) (E : XK) : Er → Prop
  | .zd => xe0 C.zd A H E
  | .mal => xe0 C.mal A H E
  | .refu r => xe1 C.refu "reason" (.str r) A H E
  | .nt i => xe1 C.nt "at" (.int i) A H E
section
variable {C : Xc} {A : List Addr} {H H' : Hp} {E : XK} {e : Er}
theorem xe0_at {c : Option Addr} {a : Addr} (h : xe0 c A H E) (e : c = some a) (g : Gr A H H') : E (.ref a) none H' := by
  obtain ⟨b, e2, h⟩ := h
  rw [e] at e2
  cases e2
  exact h H' g
theorem xe1_at {c : Option Addr} {f : Str} {v : V} {a d : Addr} (h : xe1 c f v A H E) (e : c = some a) (g : Gr A H H') (hd : H' d = some (.xd [(f, v)])) : E (.ref a) (some d) H' := by
  obtain ⟨b, e2, h⟩ := h
  rw [e] at e2
  cases e2
  exact h d H' g hd
theorem XEr.sub (g : Gr A H H') (h : XEr C A H E e) : XEr C [] H' E e := by
  cases e with
  | zd => obtain ⟨a, e, h⟩ := h; exact ⟨a, e, fun H2 g2 => h H2 (g.of0' g2)⟩
  | mal => obtain ⟨a, e, h⟩ := h; exact ⟨a, e, fun H2 g2 => h H2 (g.of0' g2)⟩
  | refu r => obtain ⟨a, e, h⟩ := h; exact ⟨a, e, fun d H2 g2 hd => h d H2 (g.of0' g2) hd⟩
  | nt i => obtain ⟨a, e, h⟩ := h; exact ⟨a, e, fun d H2 g2 hd => h d H2 (g.of0' g2) hd⟩
/-- .. at an error class that the text does not hold, nothing is promised -/
theorem xe0_no {c : Option Addr} (h : xe0 c A H E) (e : c = none) : False := by
  obtain ⟨a, e2, _⟩ := h
  rw [e] at e2
  cases e2
theorem xe1_no {c : Option Addr} {f : Str} {v : V} (h : xe1 c f v A H E) (e : c = none) : False := by
  obtain ⟨a, e2, _⟩ := h
  rw [e] at e2
  cases e2
end
/-- an answer that is no error -/
def noEr {α : Type} (m : R α) : R α := match m with
  | .ok a => .ok a
  | .er _ => .out
  | .out => .out
def tryR {α : Type} (m : R α) (h : Er → R α) : R α := match m with
  | .ok a => .ok a
  | .er e => h e
  | .out => .out
@[reducible] def Er.on {ρ : Type} (e : Er) (z m : ρ) (r : Str → ρ) (n : Int → ρ) : ρ := match e with
  | .zd => z
  | .mal => m
  | .refu x => r x
  | .nt i => n i
theorem wp_noEr {α : Type} {m : R α} {P : α → Prop} {E : Er → Prop} (h : wp (noEr m) P E) : wp m P fun _ => False := by
  cases m with
  | ok a => exact h
  | er x => exact h.elim
  | out => exact h
theorem wp_bindN {α β : Type} {Q : β → Prop} {E : Er → Prop} {m : R α} {f : α → R β} (h : wp ((noEr m).bind f) Q E) : wp m (fun a => wp (f a) Q E) fun _ => False := wp_noEr (wp_bind h)
theorem wp_tryR {α : Type} {m : R α} {k : Er → R α} {P : α → Prop} {E : Er → Prop} (h : wp (tryR m k) P E) : wp m P fun e => wp (k e) P E := by
  cases m <;> exact h
theorem rd_callS {sp : Sp} {E : L2.St → XK} {l : TA} {σ : L2.St} {H : Hp} {Q : VK} (h : l σ H fun vs H1 => sp vs H1 Q (E σ)) : tCallS sp E l σ H Q := h
/-! ### try -/
def tTryAs (K : PySem.W.Frag) (c : Value) (i : Nat) (ts : Addr → Value → Option Addr → TS) (Wout : WX) (tb : WX → TS) : TS := fun D σ H => tb (wAs K c i ts Wout D) D σ H
def tTryOnly (K : PySem.W.Frag) (c : Value) (ts : Addr → Value → Option Addr → TS) (Wout : WX) (tb : WX → TS) : TS := fun D σ H => tb (wOnly K c ts Wout D) D σ H
theorem ps_tryAs {X : Cx} {x n : Str} {c : Value} {i : Nat} {body suite : List Stmt} {b₀ : Stmt} {np pos pos' : Pos} {tb : WX → TS} {ts : Addr → Value → Option Addr → TS} {Wout : WX}
    (hs : X.stack = X.env :: X.outer) (hf : X.env.frame = some X.env.locals) (hN : X.N.Nodup) (hi : X.N[i]? = some n) (hln : X.env.kindOf n = some .local) (hc : Names X x c) (tk : Takes X Wout)
    (hb : ∀ (W : WX) (pn : List (Addr × Obj)) (xe : Value → Shared → Prop), Takes (X.tr pn xe) W → PassesOwn (model X.prog X.w) X.A X.env xe → PSs (X.tr pn xe) body (tb W))
    (hh : ∀ (a : Addr) (oe : Obj) (cls : Value) (d : Option Addr) (pn : List (Addr × Obj)), Zc cls d oe → (∃ vs, oe.data = .fields vs) → PSs (X.suite a ((a, oe) :: pn)) (b₀ :: suite) (ts a cls d)) :
    PS X (.Try body [.ExceptHandler (some (.Name x np)) (some n) (b₀ :: suite) pos'] [] [] pos) (tTryAs X.K c i ts Wout tb) := ps_try_as hs hf hN hi hln hc tk hb hh
theorem ps_tryOnly {X : Cx} {x : Str} {c : Value} {body suite : List Stmt} {b₀ : Stmt} {np pos pos' : Pos} {tb : WX → TS} {ts : Addr → Value → Option Addr → TS} {Wout : WX}
    (hs : X.stack = X.env :: X.outer) (hf : X.env.frame = some X.env.locals) (hc : Names X x c) (tk : Takes X Wout)
    (hb : ∀ (W : WX) (pn : List (Addr × Obj)) (xe : Value → Shared → Prop), Takes (X.tr pn xe) W → PassesOwn (model X.prog X.w) X.A X.env xe → PSs (X.tr pn xe) body (tb W))
    (hh : ∀ (a : Addr) (oe : Obj) (cls : Value) (d : Option Addr) (pn : List (Addr × Obj)), Zc cls d oe → (∃ vs, oe.data = .fields vs) → PSs (X.suite a ((a, oe) :: pn)) (b₀ :: suite) (ts a cls d)) :
    PS X (.Try body [.ExceptHandler (some (.Name x np)) none (b₀ :: suite) pos'] [] [] pos) (tTryOnly X.K c ts Wout tb) := ps_try_only hs hf hc tk hb hh
section
variable {K : PySem.W.Frag} {c : Value} {i : Nat} {ts : Addr → Value → Option Addr → TS} {Wout : WX} {tb : WX → TS} {D : Ends} {σ : L2.St} {H : Hp} {α : Type} {m : R α} {k : Er → R α} {P : α → Prop} {E : Er → Prop}
/-- what the handlers do is shown once, for every state that the body may leave -/
theorem rd_tryAs (C : Xc) (rel : L2.St → Hp → Prop) (hm : wp (tryR m k) P E)
    (hs : ∀ (e : Er) σ H, rel σ H → wp (k e) P E → XEr C [] H (WE (wAs K c i ts Wout D) σ) e)
    (hb : ∀ (W : WX), (∀ (e : Er) σ H, rel σ H → wp (k e) P E → XEr C [] H (WE W σ) e) → wp m P (fun e => wp (k e) P E) → tb W D σ H) : tTryAs K c i ts Wout tb D σ H :=
  hb _ hs (wp_tryR hm)
theorem rd_tryOnly (C : Xc) (rel : L2.St → Hp → Prop) (hm : wp (tryR m k) P E)
    (hs : ∀ (e : Er) σ H, rel σ H → wp (k e) P E → XEr C [] H (WE (wOnly K c ts Wout D) σ) e)
    (hb : ∀ (W : WX), (∀ (e : Er) σ H, rel σ H → wp (k e) P E → XEr C [] H (WE W σ) e) → wp m P (fun e => wp (k e) P E) → tb W D σ H) : tTryOnly K c ts Wout tb D σ H :=
  hb _ hs (wp_tryR hm)
end
/-! ### what is known of an error class without __init__ -/
structure Xk (K : PySem.W.Frag) (mg : Str → Option Value) (x : Str) (c : Addr) : Prop where
  g : mg x = some (.ref c)
  x : PySem.W.excIn K c [.type "ValueError", .type "Exception", .type "BaseException", .type "object"] "ValueError.__new__" = true
  k : PySem.W.keepIn K (.ref c) = true
  b : PySem.W.subIn K (.ref c) (.type "BaseException") = some true
  t : PySem.W.typeIn K (.ref c) = some (.type "type")
/-! ### isinstance of a caught error -/
def rIsX (K : PySem.W.Frag) (a : Addr) (cls : Value) (d : Option Addr) (xs : List V) (H : Hp) (Q : VK) : Prop := ∃ (D : Addr) (c : V) (b : Bool), cls = .ref D ∧ d = none ∧ ExcC K D ∧ xs = [.ref a, c] ∧
  ((∃ cv, (∀ u, RelV c u → u = cv) ∧ PySem.W.kitOne K (.ref D) cv = some b) ∨ (∃ p vs its, c = .ref p ∧ H p = some (.tup vs) ∧ (∀ us, Vals vs us → us = its) ∧ PySem.W.kitAny K (.ref D) its = some b)) ∧ Q (.bl b) H
theorem call_isX {X : Cx} {a : Addr} {cls : Value} {d : Option Addr} {oe : Obj} {pn : List (Addr × Obj)} (hz : Zc cls d oe) (hf : ∃ vs, oe.data = .fields vs) :
    CallR (X.suite a ((a, oe) :: pn)) (.builtin "isinstance") (rIsX X.K a cls d) := by
  intro pins s σ H xs us Q I r h
  obtain ⟨D, c, b, rfl, rfl, C, rfl, h, q⟩ := h
  rcases h with ⟨cv, hcv, e⟩ | ⟨p, vs, its, rfl, hp, hi, e⟩
  · exact call_isE C hz hf pins s σ H _ us Q I r ⟨c, cv, b, rfl, hcv, e, q⟩
  · cases r with
    | cons rx rr =>
      cases rr with
      | cons rt rn =>
        cases rn
        obtain rfl := rx
        obtain rfl := rt
        obtain ⟨hget, _⟩ := I.pin (a, oe) (List.mem_append_left _ List.mem_cons_self)
        obtain ⟨vs', hv⟩ := hf
        have J : PySem.W.InstAt s.heap a oe D none := ⟨hget, hz.1, by unfold PySem.W.notCls; rw [hv] <;> rfl, by rw [hz.2]; trivial⟩
        have ht : ObjOk X.prog X.w H s.heap p (.tup vs) := I.hok p _ hp
        obtain ⟨hl, its', hv', it⟩ := ht
        obtain rfl := hi _ hv'
        obtain ⟨dd, n, sl, hg⟩ : ∃ dd n sl, s.heap.get? p = some ⟨.type "tuple", dd, .seq (List.toArray its') n, sl⟩ := by
          obtain ⟨o, h1, h2, n, h3⟩ := it
          obtain ⟨cl, dc, dt, sl⟩ := o
          cases h2
          cases h3
          exact ⟨_, _, _, h1⟩
        exact PySem.W.kia_tup (PySem.W.handS_kitx_exc C.hg C.hk C.hs C.hd C.ha C.hn C.ht C.hm) I.kIn J hg e (by simp) fun tk => ⟨.bl b, H, I.tok _, rfl, q⟩
theorem isX_one {K : PySem.W.Frag} {D a : Addr} {c : V} {cv : Value} {b : Bool} {H : Hp} {Q : VK} (C : ExcC K D) (e : PySem.W.kitOne K (.ref D) cv = some b) (hc : ∀ u, RelV c u → u = cv) (q : Q (.bl b) H) : ap3 (rIsX K a (.ref D) none) [.ref a, c] H Q :=
  ⟨D, c, b, rfl, rfl, C, rfl, .inl ⟨cv, hc, e⟩, q⟩
theorem isX_tup {K : PySem.W.Frag} {D a p : Addr} {vs : List V} {its : List Value} {b : Bool} {H : Hp} {Q : VK} (C : ExcC K D) (hp : H p = some (.tup vs)) (hi : ∀ us, Vals vs us → us = its) (e : PySem.W.kitAny K (.ref D) its = some b) (q : Q (.bl b) H) : ap3 (rIsX K a (.ref D) none) [.ref a, .ref p] H Q :=
  ⟨D, .ref p, b, rfl, rfl, C, rfl, .inr ⟨p, vs, its, rfl, hp, hi, e⟩, q⟩
theorem vals_refs : ∀ {cs : List Addr} {us : List Value}, Vals (cs.map V.ref) us → us = cs.map Value.ref
  | [], _, h => by cases h; rfl
  | c :: cs, _, h => by
    cases h with
    | cons r t =>
      obtain rfl := r
      rw [vals_refs t]
      rfl
theorem mk_X {vs : List V} {H : Hp} {Q : VK} (l : vs.length ≤ sizeLine) (q : ∀ p H', Gr [] H H' → H' p = some (.tup vs) → Q (.ref p) H') : aTup vs H Q := ⟨l, fun p n => q p _ (Gr.new n) upd_same⟩
theorem kc_of {K : PySem.W.Frag} {C : Addr} {cls : Value} {b : Bool} (h1 : PySem.W.subIn K (.ref C) (.type "BaseException") = some true) (h2 : PySem.W.hasDictIn K C = true) (h3 : PySem.W.typeIn K (.ref C) = some (.type "type")) (h4 : PySem.W.subIn K cls (.ref C) = some b) : PySem.W.kitCls K cls (.ref C) = some b := by
  have := PySem.W.exm_ref h1 h2 h3 h4
  unfold PySem.W.exmOne at this
  rw [h1] at this
  simpa using this
theorem ko_true {K : PySem.W.Frag} {t c : Value} (h : PySem.W.kitCls K t c = some true) : PySem.W.kitOne K t c = some true := by
  unfold PySem.W.kitOne
  split
  · rfl
  · exact h
theorem ko_false {K : PySem.W.Frag} {t C : Addr} (h : PySem.W.kitCls K (.ref t) (.ref C) = some false) (s : PySem.W.subIn K (.ref t) (.ref C) = some false) (s2 : PySem.W.subIn K (.ref t) (.ref t) = some true) : PySem.W.kitOne K (.ref t) (.ref C) = some false := by
  unfold PySem.W.kitOne
  split
  · rename_i e
    have e2 : (Value.ref t) = .ref C := by simpa using e
    rw [← e2, s2] at s
    cases s
  · exact h
theorem ka_nil {K : PySem.W.Frag} {t : Value} : PySem.W.kitAny K t [] = some false := rfl
theorem ka_cons {K : PySem.W.Frag} {t c : Value} {cs : List Value} {b : Bool} (h : PySem.W.kitOne K t c = some false) (h2 : PySem.W.kitAny K t cs = some b) : PySem.W.kitAny K t (c :: cs) = some b := by
  unfold PySem.W.kitAny
  rw [h]
  exact h2
theorem ka_hit {K : PySem.W.Frag} {t c : Value} {cs : List Value} (h : PySem.W.kitOne K t c = some true) : PySem.W.kitAny K t (c :: cs) = some true := by
  unfold PySem.W.kitAny
  rw [h]
theorem kt_of {K : PySem.W.Frag} {T : String} {t : Value} {b : Bool} (m : PySem.W.kitMeta T = true) (h : PySem.W.subIn K t (.type T) = some b) : PySem.W.kitCls K t (.type T) = some b := by
  unfold PySem.W.kitCls
  simp [m, h]
section
variable {ρ : Type} {z m : R ρ} {r : Str → R ρ} {n : Int → R ρ} {P : ρ → Prop} {E : Er → Prop} {x : Str} {i : Int}
theorem wp_on_zd (h : wp (Er.on .zd z m r n) P E) : wp z P E := h
theorem wp_on_mal (h : wp (Er.on .mal z m r n) P E) : wp m P E := h
theorem wp_on_refu (h : wp (Er.on (.refu x) z m r n) P E) : wp (r x) P E := h
theorem wp_on_nt (h : wp (Er.on (.nt i) z m r n) P E) : wp (n i) P E := h
end
end Mir
set_option Elab.async false
set_option linter.all false
set_option maxRecDepth 100000
namespace Mir
open PySem PySem.Spec PyProof.Rows L2
variable [Nm]
/-! ### any, all of a list or tuple of numbers, flags -/
def truF : V → Bool
  | .int i => i != 0
  | .bl b => b
  | _ => false
def isF : V → Bool
  | .int _ => true
  | .bl _ => true
  | .non => true
  | _ => false
def rAnyF (K : PySem.W.Frag) (vs : List V) (H : Hp) (Q : VK) : Prop := ∃ a xs, vs = [.ref a] ∧ (SqL K H a xs ∨ SqT K H a xs) ∧ (∀ x ∈ xs, isF x = true) ∧ Q (.bl (xs.any truF)) H
theorem any_rangeF : ∀ (xs : List V), ((List.range xs.length).any fun i => truF (xs.getD i .non)) = xs.any truF := by
  intro xs
  rw [Bool.eq_iff_iff, List.any_eq_true, List.any_eq_true]
  constructor
  · rintro ⟨i, hi, ht⟩
    have hi := List.mem_range.mp hi
    exact ⟨xs[i], List.getElem_mem hi, by rw [List.getD_eq_getElem?_getD, List.getElem?_eq_getElem hi] at ht; exact ht⟩
  · rintro ⟨x, hx, ht⟩
    obtain ⟨i, hi, e⟩ := List.getElem_of_mem hx
    exact ⟨i, List.mem_range.mpr hi, by rw [List.getD_eq_getElem?_getD, List.getElem?_eq_getElem hi]; exact e ▸ ht⟩
theorem truth_flat {prog : Program} {w : World} {A : Around} {xs : List V} {its : List Value} (r : Vals xs its) (hf : ∀ x ∈ xs, isF x = true) :
    TruthOf prog w A (fun i v => (List.toArray its)[i]? = some v) fun i => truF (xs.getD i .non) := by
  intro i v s Q E hv hq
  have hv' : its[i]? = some v := by simpa using hv
  obtain ⟨x, hx, rx⟩ : ∃ x, xs[i]? = some x ∧ RelV x v := by
    clear hq hf
    induction r generalizing i with
    | nil => simp at hv'
    | cons h t ih =>
      cases i with
      | zero =>
        simp at hv'
        subst hv'
        exact ⟨_, rfl, h⟩
      | succ i => simpa using ih i (by simpa using hv') (by simpa using hv')
  have e : xs.getD i .non = x := by rw [List.getD_eq_getElem?_getD, hx]; rfl
  have hq : Q (truF x) s := by
    have h2 : Q (truF (xs.getD i .non)) s := hq
    rw [e] at h2
    exact h2
  have hm := hf x (List.mem_of_getElem? hx)
  cases x with
  | int n => obtain ⟨t, rfl⟩ := rx; exact P.truthy_int hq
  | bl b => obtain rfl := rx; exact wpAny_truthy_bool hq
  | non => obtain rfl := rx; exact PyProof.Rows.truthy_none hq
  | _ => cases hm
theorem cr_anyF {X : Cx} (hc : X.calm = true) : CallR X (.builtin "any") (rAnyF X.K) := by
  intro pins s σ H vs us Q I r h
  obtain ⟨a, xs, rfl, hs, hf, q⟩ := h
  rw [Vals.ref1 r]
  rcases hs with hs | hs
  · obtain ⟨its, rv, hl, _⟩ := I.list hs
    refine call_any_walk (iter_any hl.isList fun s₂ e2 st hne => ?_)
    subst e2
    refine ⟨s.heap.objs.size, [s.heap.objs.size, a], [s.heap.objs.size], its.toArray.size, (fun i v => its.toArray[i]? = some v), (fun i h => Heap.IsListIter h s.heap.objs.size a i ∧ Heap.IsList h a its.toArray), _, rfl, Walks.list (A := X.A.in1) (I.ok.hd hc) _ a hne its.toArray, st, truth_flat rv hf, fun h' tk hk => ?_⟩
    refine ⟨.bl (xs.any truF), H, I.kept fun b o eo => hk b o (fun hmem => ?_) (Heap.get?_push_of_some _ eo), ?_, q⟩
    · rcases List.mem_cons.mp hmem with e1 | hmem
      · exact absurd (e1 ▸ Heap.lt_size eo) (Nat.lt_irrefl _)
      · cases hmem
    · show Value.bool _ = Value.bool _
      rw [← any_rangeF xs, List.size_toArray, ← Paired.length rv]
  · obtain ⟨its, rv, hl, _⟩ := I.tuple hs
    have hne : a ≠ s.heap.objs.size := by
      obtain ⟨o, h1, _⟩ := hl
      exact Nat.ne_of_lt (Heap.lt_size h1)
    refine call_any_walk (iter_tuple hl ?_)
    refine ⟨s.heap.objs.size, [s.heap.objs.size, a], [s.heap.objs.size], its.toArray.size, (fun i v => its.toArray[i]? = some v), (fun i h => Heap.IsTupleIter h s.heap.objs.size a i ∧ Heap.IsTuple h a its.toArray), _, rfl, Walks.tuple (A := X.A.in1) (I.ok.hd hc) _ a hne its.toArray, ⟨⟨_, Heap.get?_push_size _ rfl, rfl, rfl⟩, ?_⟩, truth_flat rv hf, fun h' tk hk => ?_⟩
    · obtain ⟨o, h1, h2⟩ := hl
      exact ⟨o, Heap.get?_push_of_some _ h1, h2⟩
    refine ⟨.bl (xs.any truF), H, I.kept fun b o eo => hk b o (fun hmem => ?_) (Heap.get?_push_of_some _ eo), ?_, q⟩
    · rcases List.mem_cons.mp hmem with e1 | hmem
      · exact absurd (e1 ▸ Heap.lt_size eo) (Nat.lt_irrefl _)
      · cases hmem
    · show Value.bool _ = Value.bool _
      rw [← any_rangeF xs, List.size_toArray, ← Paired.length rv]
end Mir
set_option Elab.async false
set_option linter.all false
set_option maxRecDepth 100000
namespace Mir
open PySem PySem.Spec PyProof.Rows L2
variable [Nm]
/-! ### what is walked, with its data -/
structure Wk {α : Type} (J : It) (xs : List α) (G : Hp → Prop) (r : Rp α) (H0 : Hp) : Prop where
  w : ∃ Y, Walk J xs.length G Y ∧ ∀ (A : List Addr) i H v H', Gr A H0 H → i < xs.length → Y i H v H' → ∃ x, xs[i]? = some x ∧ Gr [] H H' ∧ r H' x v
section
variable {α β : Type} {K : PySem.W.Frag} {r : Rp α} {s : Rp β} {H0 : Hp} {a b : Addr} {xs : List α} {ys : List β} {vs ws : List V}
theorem Paired.get1 {q : α → V → Prop} (hp : Paired q xs vs) {i : Nat} {v : V} (e : vs[i]? = some v) : ∃ x, xs[i]? = some x ∧ q x v := by
  have hi := (List.getElem?_eq_some_iff.mp e).1
  have hi' : i < xs.length := by rw [Paired.length hp]; exact hi
  exact ⟨xs[i], List.getElem?_eq_getElem hi', Paired.get2 hp e hi'⟩
theorem wk_lst [Imm r] (hp : Paired (r H0) xs vs) : Wk (Itl K a) xs (fun H => SqL K H a vs) r H0 := ⟨YAt vs, by rw [Paired.length hp]; exact walk_list, fun A i H v H' g hi ⟨e, ev⟩ => by
  obtain ⟨x, hx, hr⟩ := Paired.get1 hp ev
  exact ⟨x, hx, by rw [e]; exact Gr.refl _, by rw [e]; exact Imm.mono g hr⟩⟩
theorem wk_tup [Imm r] (hp : Paired (r H0) xs vs) : Wk (Itt K a) xs (fun H => SqT K H a vs) r H0 := ⟨YAt vs, by rw [Paired.length hp]; exact walk_tup, fun A i H v H' g hi ⟨e, ev⟩ => by
  obtain ⟨x, hx, hr⟩ := Paired.get1 hp ev
  exact ⟨x, hx, by rw [e]; exact Gr.refl _, by rw [e]; exact Imm.mono g hr⟩⟩
theorem wk_rng {lo : Int} {n : Nat} : Wk (Itr lo n) (rng lo n) (fun _ => True) rI H0 := ⟨YFn fun i => V.int (lo + (i : Nat)), by rw [rng_length]; exact walk_range, fun A i H v H' g hi ⟨e, ev⟩ =>
  ⟨lo + i, by rw [List.getElem?_eq_getElem hi, rng_get], by rw [e]; exact Gr.refl _, ev⟩⟩
def rngC (lo c : Int) : Nat → List Int
  | 0 => []
  | n + 1 => lo :: rngC (lo + c) c n
theorem rngC_length (lo c : Int) (n : Nat) : (rngC lo c n).length = n := by
  induction n generalizing lo with
  | zero => rfl
  | succ n ih => exact congrArg Nat.succ (ih (lo + c))
theorem rngC_get (lo c : Int) (n i : Nat) (h : i < n) : (rngC lo c n)[i]? = some (lo + (i : Nat) * c) := by
  induction n generalizing lo i with
  | zero => omega
  | succ n ih =>
    cases i with
    | zero => show some lo = _; simp
    | succ i =>
      show (rngC (lo + c) c n)[i]? = _
      rw [ih (lo + c) i (by omega)]
      congr 1
      have : ((i + 1 : Nat) : Int) * c = (i : Int) * c + c := by rw [Int.natCast_add, Int.add_mul]; simp
      omega
theorem wk_rngC {lo c : Int} {n : Nat} : Wk (Itc lo c n) (rngC lo c n) (fun _ => True) rI H0 := ⟨YFn fun i => V.int (lo + (i : Nat) * c), by rw [rngC_length]; exact walk_rangeC, fun A i H v H' g hi ⟨e, ev⟩ =>
  ⟨lo + (i : Nat) * c, rngC_get lo c n i (by rwa [rngC_length] at hi), by rw [e]; exact Gr.refl _, ev⟩⟩
def enumF (xs : List α) : List (Int × α) := (rng 0 xs.length).zip xs
theorem zip_get {i : Nat} {x : α} {y : β} (h1 : xs[i]? = some x) (h2 : ys[i]? = some y) : (xs.zip ys)[i]? = some (x, y) := by
  rw [List.getElem?_zip_eq_some]
  exact ⟨h1, h2⟩
theorem wk_enum [Imm r] (hp : Paired (r H0) xs vs) : Wk (Ite K a) (enumF xs) (fun H => SqL K H a vs) (rP K rI r) H0 := ⟨_, by rw [enumF, List.length_zip, rng_length, Nat.min_self, Paired.length hp]; exact walk_enum, fun A i H v H' g hi h => by
  obtain ⟨T, x, y, rfl, hn, rfl, ex, ey⟩ := h
  cases ex
  obtain ⟨z, hz, hr⟩ := Paired.get1 hp ey
  have hi' : i < (rng 0 xs.length).length := by
    rw [enumF, List.length_zip] at hi
    exact Nat.lt_of_lt_of_le hi (Nat.min_le_left _ _)
  refine ⟨((i : Nat), z), zip_get (by rw [List.getElem?_eq_getElem hi', rng_get]; congr 1; omega) hz, Gr.new hn, T, .int (i : Nat), y, rfl, SqT.of upd_same, rfl, Imm.mono (g.of0' (Gr.new hn)) hr⟩⟩
theorem wk_zip [Imm r] [Imm s] (hp : Paired (r H0) xs vs) (hq : Paired (s H0) ys ws) : Wk (Itz K a b) (xs.zip ys) (fun H => SqL K H a vs ∧ SqL K H b ws) (rP K r s) H0 := ⟨_, by rw [List.length_zip]; exact walk_zip (by rw [Paired.length hp, Paired.length hq]), fun A i H v H' g hi h => by
  obtain ⟨T, x, y, rfl, hn, rfl, ex, ey⟩ := h
  obtain ⟨z, hz, hr⟩ := Paired.get1 hp ex
  obtain ⟨u, hu, hs⟩ := Paired.get1 hq ey
  exact ⟨(z, u), zip_get hz hu, Gr.new hn, T, x, y, rfl, SqT.of upd_same, Imm.mono (g.of0' (Gr.new hn)) hr, Imm.mono (g.of0' (Gr.new hn)) hs⟩⟩
theorem walk_zipT : Walk (RZ.ItzT K a b) (min vs.length ws.length) (fun H => SqT K H a vs ∧ SqT K H b ws) (YPair (fun i => vs[i]?) fun i => ws[i]?) := by
  refine ⟨fun i H hi ⟨h1, h2⟩ => ?_, fun H ⟨h1, h2⟩ => ?_, fun i H x H' hi ⟨h1, h2⟩ h => ?_⟩
  · exact ⟨vs, ws, vs[i]'(by omega), ws[i]'(by omega), h1, h2, by simp [List.getElem?_eq_getElem (show i < vs.length by omega)], by simp [List.getElem?_eq_getElem (show i < ws.length by omega)]⟩
  · exact ⟨vs, ws, h1, h2, by omega⟩
  · obtain ⟨T, x, y, rfl, hn, rfl, ex, ey⟩ := h
    exact ⟨T, x, y, rfl, hn, rfl, ex vs h1, ey ws h2⟩
theorem wk_zipT [Imm r] [Imm s] (hp : Paired (r H0) xs vs) (hq : Paired (s H0) ys ws) : Wk (RZ.ItzT K a b) (xs.zip ys) (fun H => SqT K H a vs ∧ SqT K H b ws) (rP K r s) H0 := ⟨_, by rw [List.length_zip, Paired.length hp, Paired.length hq]; exact walk_zipT, fun A i H v H' g hi h => by
  obtain ⟨T, x, y, rfl, hn, rfl, ex, ey⟩ := h
  obtain ⟨z, hz, hr⟩ := Paired.get1 hp ex
  obtain ⟨u, hu, hs⟩ := Paired.get1 hq ey
  exact ⟨(z, u), zip_get hz hu, Gr.new hn, T, x, y, rfl, SqT.of upd_same, Imm.mono (g.of0' (Gr.new hn)) hr, Imm.mono (g.of0' (Gr.new hn)) hs⟩⟩
end
section
variable {α σt ρ : Type} {r : Rp α} {J : It} {G : Hp → Prop} {xs : List α} {H0 H : Hp} {g : TG} {tb : TS} {D : Ends} {σ : L2.St} {s0 : σt} {E : Er → Prop}
theorem for_R (w : Wk J xs G r H0) {f : σt → α → R σt} (rel : σt → L2.St → Hp → Prop)
    (hm : wp (foldR f s0 xs) (fun s => ∀ σ H, rel s σ H → D.nx σ H) E) (h0 : rel s0 σ H) (hG : ∀ s σ H, rel s σ H → G H ∧ ∃ A, Gr A H0 H)
    (hs : ∀ (x : α) (v : V) (s : σt) (σ : L2.St) (H H' : Hp) (N : L2.St → Hp → Prop), rel s σ H → Gr [] H H' → r H' x v → wp (f s x) (fun s' => ∀ σ' H', rel s' σ' H' → N σ' H') E →
      g v σ H' fun σ2 H2 => tb { D with nx := N, ct := N, bk := D.nx } σ2 H2) :
    ∃ W : Nat → Nat → L2.St → Hp → Prop, (∃ m, W 0 m σ H) ∧ ∀ i m σ H, W i m σ H →
      (J.stop i H ∧ D.nx σ H) ∨ (J.go i H ∧ ∃ N : L2.St → Hp → Prop, (∀ σ' H', N σ' H' → ∃ m', m' < m ∧ W (i + 1) m' σ' H') ∧ ∀ x H', J.yld i H x H' → g x σ H' fun σ2 H2 => tb { D with nx := N, ct := N, bk := D.nx } σ2 H2) := by
  obtain ⟨Y, wa, hy⟩ := w
  refine for_it wa (fun i σ H => ∃ s, rel s σ H ∧ wp (foldR f s (xs.drop i)) (fun s => ∀ σ H, rel s σ H → D.nx σ H) E) ⟨s0, h0, hm⟩ (fun i σ H _ ⟨s, hr, _⟩ => (hG s σ H hr).1) ?_ ?_
  · rintro i v σ H H' hi ⟨s, hr, hw⟩ y
    obtain ⟨A, ga⟩ := (hG s σ H hr).2
    obtain ⟨x, hx, g', hv⟩ := hy A i H v H' ga hi y
    have hw := foldR_step hi hw
    have e : xs[i] = x := by rw [List.getElem?_eq_getElem hi] at hx; exact Option.some.inj hx
    rw [e] at hw
    exact hs x v s σ H H' _ hr g' hv (wp_imp hw (fun s' hs' => fun σ' H' r' => ⟨s', r', hs'⟩) fun _ e => e)
  · rintro σ H ⟨s, hr, hw⟩
    exact foldR_end (Nat.le_refl _) hw σ H hr
theorem for_L (w : Wk J xs G r H0) {f : σt → α → R (Lp σt ρ)} {RT : ρ → Prop} (rel : σt → L2.St → Hp → Prop)
    (hm : wp (loopR f s0 xs) (leP (fun s => ∀ σ H, rel s σ H → D.nx σ H) RT) E) (h0 : rel s0 σ H) (hG : ∀ s σ H, rel s σ H → G H ∧ ∃ A, Gr A H0 H)
    (hs : ∀ (x : α) (v : V) (s : σt) (σ : L2.St) (H H' : Hp) (N : L2.St → Hp → Prop), rel s σ H → Gr [] H H' → r H' x v → wp (f s x) (lpP (fun s' => ∀ σ' H', rel s' σ' H' → N σ' H') (fun s' => ∀ σ' H', rel s' σ' H' → D.nx σ' H') RT) E →
      g v σ H' fun σ2 H2 => tb { D with nx := N, ct := N, bk := D.nx } σ2 H2) :
    ∃ W : Nat → Nat → L2.St → Hp → Prop, (∃ m, W 0 m σ H) ∧ ∀ i m σ H, W i m σ H →
      (J.stop i H ∧ D.nx σ H) ∨ (J.go i H ∧ ∃ N : L2.St → Hp → Prop, (∀ σ' H', N σ' H' → ∃ m', m' < m ∧ W (i + 1) m' σ' H') ∧ ∀ x H', J.yld i H x H' → g x σ H' fun σ2 H2 => tb { D with nx := N, ct := N, bk := D.nx } σ2 H2) := by
  obtain ⟨Y, wa, hy⟩ := w
  refine for_it wa (fun i σ H => ∃ s, rel s σ H ∧ wp (loopR f s (xs.drop i)) (leP (fun s => ∀ σ H, rel s σ H → D.nx σ H) RT) E) ⟨s0, h0, hm⟩ (fun i σ H _ ⟨s, hr, _⟩ => (hG s σ H hr).1) ?_ ?_
  · rintro i v σ H H' hi ⟨s, hr, hw⟩ y
    obtain ⟨A, ga⟩ := (hG s σ H hr).2
    obtain ⟨x, hx, g', hv⟩ := hy A i H v H' ga hi y
    have hw := loopR_step hi hw
    have e : xs[i] = x := by rw [List.getElem?_eq_getElem hi] at hx; exact Option.some.inj hx
    rw [e] at hw
    exact hs x v s σ H H' _ hr g' hv (wp_imp hw (fun s' hs' => (by
      cases s' with
      | nx s' => exact fun σ' H' r' => ⟨s', r', hs'⟩
      | bk s' => exact hs'
      | rt r => exact hs')) fun _ e => e)
  · rintro σ H ⟨s, hr, hw⟩
    exact loopR_end (Nat.le_refl _) hw σ H hr
theorem lc_R (w : Wk J xs G r H0) {f : σt → α → R σt} {Z : σt → Prop} {tt : TT} {te : TE} {own : List Nat} {H1 : Hp} {D : Addr} {Qd : Hp → Prop} (rel : σt → Hp → Prop)
    (hm : wp (foldR f s0 xs) Z E) (h0 : rel s0 (upd H1 D (.lst []))) (hG : ∀ s H, rel s H → G H ∧ ∃ A, Gr A H0 H)
    (hs : ∀ (x : α) (v : V) (s : σt) (H H' : Hp) (Nx : Hp → Prop), rel s H → Gr [] H H' → r H' x v → wp (f s x) (fun s' => ∀ H', rel s' H' → Nx H') E →
      g v (wipe σ own) H' fun σ2 H2 => wipe σ2 own = wipe σ own ∧ tt σ2 H2 fun b H3 => if b = true then te σ2 H3 fun y H4 => ∃ acc, H4 D = some (.lst acc) ∧ acc.length < sizeLine ∧ Nx (upd H4 D (.lst (acc ++ [y]))) else Nx H3)
    (hd : ∀ s H, rel s H → Z s → Qd H) :
    ∃ W : Nat → Nat → Hp → Prop, (∃ m, W 0 m (upd H1 D (.lst []))) ∧ ∀ i m H, W i m H →
      (J.stop i H ∧ Qd H) ∨ (J.go i H ∧ ∃ Nx : Hp → Prop, (∀ H', Nx H' → ∃ m', m' < m ∧ W (i + 1) m' H') ∧ ∀ x H', J.yld i H x H' → g x (wipe σ own) H' fun σ2 H2 => wipe σ2 own = wipe σ own ∧ tt σ2 H2 fun b H3 =>
        if b = true then te σ2 H3 fun y H4 => ∃ acc, H4 D = some (.lst acc) ∧ acc.length < sizeLine ∧ Nx (upd H4 D (.lst (acc ++ [y]))) else Nx H3) := by
  obtain ⟨Y, wa, hy⟩ := w
  refine lc_it wa (fun i H => ∃ s, rel s H ∧ wp (foldR f s (xs.drop i)) Z E) ⟨s0, h0, hm⟩ (fun i H _ ⟨s, hr, _⟩ => (hG s H hr).1) ?_ ?_
  · rintro i v H H' hi ⟨s, hr, hw⟩ y
    obtain ⟨A, ga⟩ := (hG s H hr).2
    obtain ⟨x, hx, g', hv⟩ := hy A i H v H' ga hi y
    have hw := foldR_step hi hw
    have e : xs[i] = x := by rw [List.getElem?_eq_getElem hi] at hx; exact Option.some.inj hx
    rw [e] at hw
    exact hs x v s H H' _ hr g' hv (wp_imp hw (fun s' hs' => fun H' r' => ⟨s', r', hs'⟩) fun _ e => e)
  · rintro H ⟨s, hr, hw⟩
    exact hd s H hr (foldR_end (Nat.le_refl _) hw)
end
end Mir
namespace Mir
open PySem PySem.Spec PyProof.Rows L2
variable [Nm]
section
variable {K : PySem.W.Frag} {σ : L2.St} {H : Hp} {l : TA} {R : It → Hp → Prop}
theorem rd_gtE {n : Nat} {g : TGs} {a : Addr} {u : V} {xs : List V} {Q : L2.St → Hp → Prop} (eu : u = .ref a) (h : SqT K H a xs) (e : xs.length = n) (q : g xs σ H Q) : gTup K n g u σ H Q := ⟨a, xs, eu, h, e, q⟩
theorem rd_r3 (h : l σ H fun vs H1 => ∃ i j c n, vs = [.int i, .int j, .int c] ∧ RgC i j c n ∧ R (Itc i c n) H1) : iRng3 l σ H R := h
def zipA (K : PySem.W.Frag) (R : It → Hp → Prop) (vs : List V) (H1 : Hp) : Prop := ∃ a b xs ys, vs = [.ref a, .ref b] ∧ ((SqL K H1 a xs ∧ SqL K H1 b ys ∧ R (Itz K a b) H1) ∨ (SqT K H1 a xs ∧ SqT K H1 b ys ∧ R (RZ.ItzT K a b) H1))
theorem rd_izip (h : l σ H (zipA K R)) : RZ.iZipA K l σ H R := h
def enumA (K : PySem.W.Frag) (R : It → Hp → Prop) (vs : List V) (H1 : Hp) : Prop := ∃ a xs, vs = [.ref a] ∧ SqL K H1 a xs ∧ R (Ite K a) H1
theorem rd_ienumerate (h : l σ H (enumA K R)) : iEnum K l σ H R := h
theorem zip_l {u v : V} {a b : Addr} {xs ys : List V} (e1 : u = .ref a) (e2 : v = .ref b) (h1 : SqL K H a xs) (h2 : SqL K H b ys) (h : R (Itz K a b) H) : zipA K R [u, v] H := ⟨a, b, xs, ys, by rw [e1, e2], .inl ⟨h1, h2, h⟩⟩
theorem zip_t {u v : V} {a b : Addr} {xs ys : List V} (e1 : u = .ref a) (e2 : v = .ref b) (h1 : SqT K H a xs) (h2 : SqT K H b ys) (h : R (RZ.ItzT K a b) H) : zipA K R [u, v] H := ⟨a, b, xs, ys, by rw [e1, e2], .inr ⟨h1, h2, h⟩⟩
theorem enum_l {a : Addr} {xs : List V} (h1 : SqL K H a xs) (h : R (Ite K a) H) : enumA K R [.ref a] H := ⟨a, xs, rfl, h1, h⟩
end
/-- the turns of a range with a step -/
def rg3n (i j c : Int) : Nat := (Builtin.Range.rangeSize i j c).toNat
def rg3Ok (i j c : Int) : Prop := c ≠ 0 ∧ c.natAbs < 1073741824 ∧ Builtin.Range.small i j c = true ∧ 0 ≤ Builtin.Range.rangeSize i j c
instance (i j c : Int) : Decidable (rg3Ok i j c) := inferInstanceAs (Decidable (_ ∧ _))
theorem rg3_of {i j c : Int} (h : rg3Ok i j c) : RgC i j c (rg3n i j c) := ⟨h.1, h.2.1, h.2.2.1, by unfold rg3n; have := h.2.2.2; omega⟩
section
variable {α β γ : Type} {K : PySem.W.Frag} {r : Rp α} {s : Rp β} {t : Rp γ} {H : Hp} {a : Addr} {v : V} {i : Int} {Q : VK} {E : Er → Prop} {xs : List α}
theorem ix_P20 {x : α × β} (h : rP K r s H x v) (e : ixN 2 i = some 0) (q : ∀ w, r H x.1 w → Q w H) : rIxT K v (.int i) H Q := by
  obtain ⟨a, y, z, rfl, h1, h2, h3⟩ := h

  exact ⟨a, [y, z], i, y, rfl, rfl, h1, by show (ixN 2 i).bind _ = _; rw [e]; rfl, q y h2⟩
theorem rP2_T {r : Rp α} {x : α × α} (h : rP K r r H x v) : rT K r H [x.1, x.2] v := by
  obtain ⟨a, y, z, rfl, h1, h2, h3⟩ := h
  exact ⟨a, rfl, [y, z], h1, .cons h2 (.cons h3 .nil)⟩
theorem rP3_T {r : Rp α} {x : α × α × α} (h : rP3 K r r r H x v) : rT K r H [x.1, x.2.1, x.2.2] v := by
  obtain ⟨a, y, z, u, rfl, h1, h2, h3, h4⟩ := h
  exact ⟨a, rfl, [y, z, u], h1, .cons h2 (.cons h3 (.cons h4 .nil))⟩
/-- an item of a pair, of three, by a written place -/
theorem ix_P2 {x : α × β} {P : V → Prop} (j : Nat) (h : rP K r s H x v) (e : ixN 2 i = some j) (hp : ∀ (a : Addr) (y z : V), r H x.1 y → s H x.2 z → ∃ w, [y, z][j]? = some w ∧ P w) (q : ∀ w, P w → Q w H) : rIxT K v (.int i) H Q := by
  obtain ⟨a, y, z, rfl, h1, h2, h3⟩ := h
  obtain ⟨w, hw, pw⟩ := hp a y z h2 h3
  exact ⟨a, [y, z], i, w, rfl, rfl, h1, by show (ixN 2 i).bind _ = _; rw [e]; exact hw, q w pw⟩
theorem ix_P3 {x : α × β × γ} {P : V → Prop} (j : Nat) (h : rP3 K r s t H x v) (e : ixN 3 i = some j) (hp : ∀ (a : Addr) (y z u : V), r H x.1 y → s H x.2.1 z → t H x.2.2 u → ∃ w, [y, z, u][j]? = some w ∧ P w) (q : ∀ w, P w → Q w H) : rIxT K v (.int i) H Q := by
  obtain ⟨a, y, z, u, rfl, h1, h2, h3, h4⟩ := h
  obtain ⟨w, hw, pw⟩ := hp a y z u h2 h3 h4
  exact ⟨a, [y, z, u], i, w, rfl, rfl, h1, by show (ixN 3 i).bind _ = _; rw [e]; exact hw, q w pw⟩
theorem ix_P21 {x : α × β} (h : rP K r s H x v) (e : ixN 2 i = some 1) (q : ∀ w, s H x.2 w → Q w H) : rIxT K v (.int i) H Q := ix_P2 1 h e (fun _ y z _ h => ⟨z, rfl, h⟩) q
theorem ix_P30 {x : α × β × γ} (h : rP3 K r s t H x v) (e : ixN 3 i = some 0) (q : ∀ w, r H x.1 w → Q w H) : rIxT K v (.int i) H Q := ix_P3 0 h e (fun _ y z u h _ _ => ⟨y, rfl, h⟩) q
theorem ix_P31 {x : α × β × γ} (h : rP3 K r s t H x v) (e : ixN 3 i = some 1) (q : ∀ w, s H x.2.1 w → Q w H) : rIxT K v (.int i) H Q := ix_P3 1 h e (fun _ y z u _ h _ => ⟨z, rfl, h⟩) q
theorem ix_P32 {x : α × β × γ} (h : rP3 K r s t H x v) (e : ixN 3 i = some 2) (q : ∀ w, t H x.2.2 w → Q w H) : rIxT K v (.int i) H Q := ix_P3 2 h e (fun _ y z u _ _ h => ⟨u, rfl, h⟩) q
/-- the last item taken away -/
def popL (xs : List α) : R (α × List α) := match xs[xs.length - 1]? with
  | some x => .ok (x, xs.dropLast)
  | none => .out
def popAtL (xs : List α) (i : Int) : R (α × List α) := if -(2 ^ 63) ≤ i ∧ i < 2 ^ 63 then match seqIndex? i xs.length with
  | some k => match xs[k]? with
    | some x => .ok (x, xs.eraseIdx k)
    | none => .out
  | none => .out else .out
theorem Paired.dropLast {q : α → V → Prop} : ∀ {xs : List α} {vs : List V}, Paired q xs vs → Paired q xs.dropLast vs.dropLast
  | _, _, .nil => .nil
  | _, _, .cons _ .nil => .nil
  | _, _, .cons h (.cons h2 t) => .cons h (Paired.dropLast (.cons h2 t))
theorem Paired.erase {q : α → V → Prop} : ∀ {xs : List α} {vs : List V} (k : Nat), Paired q xs vs → Paired q (xs.eraseIdx k) (vs.eraseIdx k)
  | _, _, _, .nil => .nil
  | _, _, 0, .cons _ t => t
  | _, _, k + 1, .cons h t => .cons h (Paired.erase k t)
theorem rd_pop [Imm r] {Z : α × List α → Prop} (h : Ls r H a xs) (hm : wp (popL xs) Z E) (q : ∀ (t : α × List α) w H', Gr [a] H H' → Ls r H' a t.2 → r H' t.1 w → Z t → Q w H') : rPop (.ref a) [] H Q := by
  obtain ⟨vs, h1, h2⟩ := h
  unfold popL at hm
  cases e : xs[xs.length - 1]? with
  | none =>
    rw [e] at hm
    exact hm.elim
  | some x =>
    rw [e] at hm
    obtain ⟨w, hw, hr⟩ := Paired.at h2 e
    rw [Paired.length h2] at hw
    exact ⟨a, vs, w, rfl, rfl, h1, hw, q (x, xs.dropLast) w _ (Gr.set h1) ⟨_, upd_same, Paired.imm (Gr.set h1) (Paired.dropLast h2)⟩ (Imm.mono (Gr.set h1) hr) hm⟩
theorem rd_popAt [Imm r] {Z : α × List α → Prop} (h : Ls r H a xs) (hm : wp (popAtL xs i) Z E) (q : ∀ (t : α × List α) w H', Gr [a] H H' → Ls r H' a t.2 → r H' t.1 w → Z t → Q w H') : rPopAt (.ref a) [.int i] H Q := by
  obtain ⟨vs, h1, h2⟩ := h
  unfold popAtL at hm
  by_cases b : -(2 ^ 63) ≤ i ∧ i < 2 ^ 63
  · rw [if_pos b] at hm
    cases e : seqIndex? i xs.length with
    | none =>
      rw [e] at hm
      exact hm.elim
    | some k =>
      rw [e] at hm
      cases e2 : xs[k]? with
      | none =>
        simp only [e2] at hm
        exact hm.elim
      | some x =>
        simp only [e2] at hm
        obtain ⟨w, hw, hr⟩ := Paired.at h2 e2
        exact ⟨a, vs, i, k, w, rfl, rfl, h1, b.1, b.2, by rw [← Paired.length h2]; exact e, hw, q (x, xs.eraseIdx k) w _ (Gr.set h1) ⟨_, upd_same, Paired.imm (Gr.set h1) (Paired.erase k h2)⟩ (Imm.mono (Gr.set h1) hr) hm⟩
  · rw [if_neg b] at hm
    exact hm.elim
theorem any_ints {ns : List Int} : (ns.map V.int).any truF = ns.any fun n => n != 0 := by
  induction ns with
  | nil => rfl
  | cons n ns ih => show (truF (V.int n) || _) = _; rw [ih]; rfl
theorem any_bls {bs : List Bool} : (bs.map V.bl).any truF = bs.any id := by
  induction bs with
  | nil => rfl
  | cons n ns ih => show (truF (V.bl n) || _) = _; rw [ih]; rfl
theorem bls_of {ns : List Bool} {vs : List V} (h : Paired (rB H) ns vs) : vs = ns.map V.bl := by
  induction h with
  | nil => rfl
  | cons h _ ih => rw [ih, show _ = V.bl _ from h] <;> rfl
theorem flat_ints {ns : List Int} : ∀ x ∈ ns.map V.int, isF x = true := fun x h => by
  obtain ⟨n, _, rfl⟩ := List.mem_map.mp h
  rfl
theorem flat_bls {ns : List Bool} : ∀ x ∈ ns.map V.bl, isF x = true := fun x h => by
  obtain ⟨n, _, rfl⟩ := List.mem_map.mp h
  rfl
theorem any_LI {ns : List Int} (h : Lq K rI H a ns) (q : Q (.bl (ns.any fun n => n != 0)) H) : ap3 (rAnyF K) [.ref a] H Q := by
  obtain ⟨vs, h1, h2⟩ := h
  obtain rfl := ints_of h2
  exact ⟨a, _, rfl, .inl h1, flat_ints, any_ints ▸ q⟩
theorem any_LB {ns : List Bool} (h : Lq K rB H a ns) (q : Q (.bl (ns.any id)) H) : ap3 (rAnyF K) [.ref a] H Q := by
  obtain ⟨vs, h1, h2⟩ := h
  obtain rfl := bls_of h2
  exact ⟨a, _, rfl, .inl h1, flat_bls, any_bls ▸ q⟩
theorem any_TI {ns : List Int} (h : rT K rI H ns v) (q : Q (.bl (ns.any fun n => n != 0)) H) : ap3 (rAnyF K) [v] H Q := by
  obtain ⟨a, rfl, vs, h1, h2⟩ := h
  obtain rfl := ints_of h2
  exact ⟨a, _, rfl, .inr h1, flat_ints, any_ints ▸ q⟩
theorem any_TB {ns : List Bool} (h : rT K rB H ns v) (q : Q (.bl (ns.any id)) H) : ap3 (rAnyF K) [v] H Q := by
  obtain ⟨a, rfl, vs, h1, h2⟩ := h
  obtain rfl := bls_of h2
  exact ⟨a, _, rfl, .inr h1, flat_bls, any_bls ▸ q⟩
end
end Mir
namespace Mir
open PySem PySem.Spec PyProof.Rows L2
variable [Nm]
/-! ### rules whose reading names the frozen part: it is told -/
section
variable {X : Cx} {K : PySem.W.Frag}
theorem ix_listK (e : X.K = K) : IxR X (rIxL K) := e ▸ ix_list
theorem ix_tupK (e : X.K = K) : IxR X (rIxT K) := e ▸ ix_tup
theorem sl_listK (e : X.K = K) : SlR X (rSlL K) := e ▸ sl_list
theorem sl_tupK (e : X.K = K) : SlR X (rSlT K) := e ▸ sl_tup
theorem sortedIK (e : X.K = K) : CallR X (.builtin "sorted") (rSortedI K) := e ▸ cr_sortedI
theorem anyFK (hc : X.calm = true) (e : X.K = K) : CallR X (.builtin "any") (rAnyF K) := e ▸ cr_anyF hc
theorem isiK (e : X.K = K) : CallR X (.builtin "isinstance") (rIsi K) := e ▸ call_isi
theorem catTK (e : X.K = K) : OpR X (binaryOp .Add) (rCatT K) := e ▸ op_catT
theorem inK (e : X.K = K) : OpR X (compareOp .In) (rIn K false) := e ▸ op_in_seq
theorem notInK (e : X.K = K) : OpR X (compareOp .NotIn) (rIn K true) := e ▸ op_notIn_seq
theorem eqDK (h : X.A.units + 64 < cLine) (e : X.K = K) : OpR X (compareOp .Eq) (rEqD K) := e ▸ op_eqD h
theorem neDK (h : X.A.units + 64 < cLine) (e : X.K = K) : OpR X (compareOp .NotEq) (rNeD K) := e ▸ op_neD h
theorem lenK (e : X.K = K) : CallR X (.builtin "len") (fun xs H Q => ∃ p ys, xs = [.ref p] ∧ (SqL K H p ys ∨ SqT K H p ys) ∧ Q (.int ys.length) H) := e ▸ call_len_seq
theorem tupleK (e : X.K = K) : CallR X (.type "tuple") (fun xs H Q => ∃ p ys, xs = [.ref p] ∧ ((SqL K H p ys ∧ ∀ l : Addr, H l = none → Q (.ref l) (upd H l (.tup ys))) ∨ SqT K H p ys ∧ Q (.ref p) H)) := e ▸ call_tuple_of
theorem listK (e : X.K = K) : CallR X (.type "list") (fun xs H Q => ∃ p ys, xs = [.ref p] ∧ (SqL K H p ys ∨ SqT K H p ys) ∧ ∀ l : Addr, H l = none → Q (.ref l) (upd H l (.lst ys))) := e ▸ call_list_of
end
end Mir
namespace Mir
open PySem PySem.Spec PyProof.Rows L2
variable [Nm]
section
variable {X : Cx} {K : PySem.W.Frag}
theorem pi_listK {tg l : Expr} {tl : TE} (h : PE X l tl) (e : X.K = K) : PI X tg l (iList K tl) := e ▸ pi_list h
theorem pi_tupK {tg l : Expr} {tl : TE} (h : PE X l tl) (e : X.K = K) : PI X tg l (iTup K tl) := e ▸ pi_tup h
theorem pi_zipK {e1 e2 : Expr} {ta : TA} {p pos tpos : Pos} {elts : List Expr} {kk : Nat} (hg : Gl X "zip") (hm : X.mg "zip" = none) (ha : PA X [e1, e2] ta) (e : X.K = K)
    (he : starEach [e1, e2] X.env = (false, eval e1 X.env) :: starEach [e2] X.env := by rfl) (hpl : (backTo pos (starEach [e2] X.env)).any (·.1) = false := by rfl) :
    PI X (.Tuple elts kk tpos) (.Call (.Name "zip" p) [e1, e2] [] pos) (RZ.iZipA K ta) := e ▸ RZ.pi_zipA hg hm ha he hpl
theorem pi_enumK {e1 : Expr} {ta : TA} {p pos tpos : Pos} {elts : List Expr} {kk : Nat} (hg : Gl X "enumerate") (hm : X.mg "enumerate" = none) (ha : PA X [e1] ta) (e : X.K = K)
    (he : starEach [e1] X.env = [(false, eval e1 X.env)] := by rfl) :
    PI X (.Tuple elts kk tpos) (.Call (.Name "enumerate" p) [e1] [] pos) (iEnum K ta) := e ▸ pi_enum hg hm ha he
end
end Mir
namespace Mir
open PySem PySem.Spec PyProof.Rows L2
variable [Nm]
theorem ne_of_st {α : Type} {r : Rp α} {A : List Addr} {q v : Addr} {H : Hp} {xs : List α} (st : q ∈ A ∨ H q = none) (n : v ∉ A) (h : Ls r H v xs) : v ≠ q := fun e => st.elim (fun m => n (e ▸ m)) fun z => h.ne z e
end Mir
namespace Mir
open PySem PySem.Spec PyProof.Rows L2
variable [Nm]
/-! ### a list that is put into something stands still from then on -/
def tFrz (t : TE) : TE := fun σ H Q => t σ H fun v H1 => ∃ a u, v = .ref a ∧ H1 a = some u ∧ Mut (some u) ∧ ∀ od, Q v (upd H1 a (.frz od u))
theorem pe_frz {X : Cx} {e : Expr} {t : TE} (h : PE X e t) : PE X e (tFrz t) := ⟨fun pins s σ H Q I hw => thn (h.run pins s σ H _ I hw) fun v s1 hh => by
  obtain ⟨x, H1, I1, r, a, u, rfl, ha, mu, q⟩ := hh
  obtain ⟨od, I2⟩ := I1.lock ha mu
  exact ⟨.ref a, _, I2, r, q od⟩⟩
section
variable {α : Type} {K : PySem.W.Frag} {r : Rp α} {H H' : Hp} {a b : Addr} {xs : List α} {vs : List V} {v : V} {Q : VK}
/-- a list that stands still -/
def rZ (r : Rp α) : Rp (List α) := fun H xs v => ∃ a o vs, v = .ref a ∧ H a = some (.frz o (.lst vs)) ∧ Paired (r H) xs vs
instance [Imm r] : Imm (rZ r) := ⟨fun g ⟨a, o, vs, e, h, h2⟩ => ⟨a, o, vs, e, g _ _ h rfl, Paired.im g h2⟩⟩
theorem rZ_q (h : rZ r H xs v) : ∃ a, v = .ref a ∧ Lq K r H a xs := let ⟨a, o, vs, e, h1, h2⟩ := h; ⟨a, e, vs, .inl (.inr ⟨o, h1⟩), h2⟩
theorem Im.frz {o : Obj} {u : HO} (h : H a = some u) (k : kd u ≠ 0) : Im H (upd H a (.frz o u)) := fun b w q z => by
  by_cases e : b = a
  · subst e
    rw [h] at q
    cases q
    exact absurd z k
  · rw [upd_ne e]
    exact q
/-- what the freezing of the list at a leaves of the rest -/
structure Fz (a : Addr) (H H' : Hp) : Prop where
  im : Im H H'
  ne : ∀ b o, b ≠ a → H b = some o → H' b = some o
  at_ : H' a ≠ none
def frzA (Q : VK) (v : V) (H1 : Hp) : Prop := ∃ b u, v = .ref b ∧ H1 b = some u ∧ Mut (some u) ∧ ∀ od, Q v (upd H1 b (.frz od u))
/-- the form that a printed text uses: the value is a list of its own at hand -/
theorem fz_L [Imm r] (h : Ls r H a xs) (q : ∀ H2, Fz a H H2 → rZ r H2 xs (.ref a) → Q (.ref a) H2) : frzA Q (.ref a) H := by
  obtain ⟨vs, h1, h2⟩ := h
  have g : ∀ od, Im H (upd H a (.frz od (.lst vs))) := fun od => Im.frz h1 (by show 1 ≠ 0; decide)
  exact ⟨a, _, rfl, h1, trivial, fun od => q _ ⟨g od, fun b o n hb => by rw [upd_ne n]; exact hb, by rw [upd_same]; intro z; cases z⟩ ⟨a, od, vs, rfl, upd_same, Paired.im (g od) h2⟩⟩
theorem rd_frzE {t : TE} {σ : L2.St} (h : t σ H (frzA Q)) : tFrz t σ H Q := h
theorem Ls.fz [Imm r] (g : Fz a H H') (n : b ≠ a) (h : Ls r H b xs) : Ls r H' b xs := let ⟨vs, h1, h2⟩ := h; ⟨vs, g.ne _ _ n h1, Paired.im g.im h2⟩
theorem Gr.fz {A : List Addr} {H0 : Hp} (g : Gr A H0 H) (n : H0 a = none) (f : Fz a H H') : Gr A H0 H' := ⟨fun b o h => by
  obtain ⟨o', h1, h2⟩ := g.ob b o h
  exact ⟨o', f.ne _ _ (fun e => by rw [e, n] at h; cases h) h1, h2⟩, fun P t => by
  obtain ⟨ps, h1, h2, h3⟩ := g.tb P t
  refine ⟨ps, f.ne _ _ (fun e => ?_) h1, h2, fun pos cv hc => ?_⟩
  · obtain ⟨_, t1, _⟩ := t
    rw [e, n] at t1
    cases t1
  · obtain ⟨c, e1, e2⟩ := h3 pos cv hc
    exact ⟨c, e1, f.im _ _ e2 kd_code⟩⟩
end
end Mir
set_option Elab.async false
set_option linter.all false
set_option maxRecDepth 100000
namespace Mir
open PySem PySem.Spec PyProof.Rows L2 NdefX
variable [Nm]
open LamX (CodeO TabB)
/-! ### lambdas with parameters, handed to a def -/
/-- the words of a lambda -/
structure LW where
  qual : Str
  params : Arguments
  body : Expr
  scope : Scope
abbrev LW.nf (L : LW) (cl : List (Str × Addr)) (c : Addr) : NF := ⟨"<lambda>", L.qual, L.params, [], L.scope, cl, c⟩
/-- the object at f is the lambda -/
def LamObj (L : LW) (f c : Addr) (cl : List (Str × Addr)) (h : Heap) : Prop := ∃ pm ctv : Value, h.get? f = some (PySem.W.kla_obj "<lambda>" L.qual L.params L.body L.scope cl pm c ctv)
/-- what a lambda promises: sp ws, ws what its captured cells hold -/
structure LOk (P : Program) (w : World) (K : PySem.W.Frag) (mg : Str → Option Value) (base : Heap) (CX : CXT) (k : Nat) (L : LW) (ps fr : List Str) (sp : List (Option V) → Sp) : Prop where
  len : ∀ ws vs H Q E, sp ws vs H Q E → vs.length = ps.length
  run : ∀ (A : Around) (outer : List Env) (s : Shared) (H : Hp) (us : List Value) (vs : List V) (ws : List (Option V)) (Q : VK) (E : XK) (f c : Addr) (cl : List (Str × Addr)), Room k A → Env0 P w K mg base A outer s H → LamObj L f c cl s.heap → H c = some (CodeO c L.qual) →
    CellsAt cl fr ws s.heap H → Vals vs us → sp ws vs H Q E → codeAny (model P w) A (.call (.ref f) ⟨us, []⟩) (CR CX outer P w H s Q E) s
section
variable {CX : CXT} {P : Program} {w : World} {K : PySem.W.Frag} {mg : Str → Option Value} {base : Heap} {N ps fr : List Str} {L : LW} {k j : Nat} {sp : List (Option V) → Sp}
theorem LOk.mono (o : LOk P w K mg base CX j L ps fr sp) (h : j ≤ k) : LOk P w K mg base CX k L ps fr sp := ⟨o.len, fun A outer s H us vs ws Q E f c cl hr => o.run A outer s H us vs ws Q E f c cl (hr.mono h)⟩
theorem lok_of (S : NScope N ps fr L.scope) (hb : ∀ (cl : List (Str × Addr)) (pm cv ctv : Value) (us : List Value), us.length = ps.length → bindArgs (PySem.W.kla_fn "<lambda>" L.qual L.params L.body L.scope cl pm cv ctv) ⟨us, []⟩ = pure (ps.zip us))
    (len : ∀ ws vs H Q E, sp ws vs H Q E → vs.length = ps.length)
    (hbody : ∀ (A : Around) (outer : List Env) (s : Shared) (H : Hp) (vs : List V) (ws : List (Option V)) (Q : VK) (E : XK) (f c : Addr) (cl : List (Str × Addr)), Room k (A.deeper (envF (L.nf cl c) f s.heap.objs.size)) → sp ws vs H Q E →
      ∃ t : TE, PE (ncx CX P w K mg base N (L.nf cl c) f A outer s H E) L.body t ∧ t (startF N vs ws) H Q) :
    LOk P w K mg base CX (k + 1) L ps fr sp := by
  refine ⟨len, fun A outer s H us vs ws Q E f c cl hr e0 hf hc C r hsp => ?_⟩
  have hl := len _ _ _ _ _ hsp
  have lim : s.heap.NoLimit := e0.mod.nolimit.keeps fun b o e => (e0.bs b o e).1
  obtain ⟨pm, ctv, ho⟩ := hf
  refine PySem.W.kla_callFunE hr.depth ho rfl S.co S.gen rfl (codeO_at e0.hok hc) ?_
  rw [hb cl pm _ ctv us (by rw [← r.length]; exact hl)]
  refine wpAny_pure (wpAny_newFunctionEnv S.nocell (fun ⟨n, _⟩ hy => S.par n (List.of_mem_zip hy).1) (fun h₁ hns hsb => ⟨lim.fresh _ hsb, ?_⟩) S.kind)
  show codeAny _ _ (.expr L.body (envF (L.nf cl c) f s.heap.objs.size)) _ _
  have kp : ∀ b o, s.heap.get? b = some o → h₁.get? b = some o := fun b o e => hsb.extBut b o (Nat.ne_of_lt (Heap.lt_size e)) (Heap.get?_push_of_some _ e)
  obtain ⟨t, ht, hq⟩ := hbody A outer s H vs ws Q E f c cl (hr.deeper _) hsp
  have I : Inv (ncx CX P w K mg base N (L.nf cl c) f A outer s H E) [] (startF N vs ws) H { s with heap := h₁, toks := s.toks + (ps.zip us).length } := inv_startN S hr.hd e0 hl r C hns kp
  refine PySem.W.kla_codeExpr (wpAny_mono (ht.run [] _ (startF N vs ws) H _ I hq) (fun v s' hs => ?_) fun e s' hs => hs)
  obtain ⟨w', H', J, rv, q⟩ := hs
  exact ⟨w', H', J.os, J.bare, J.base, J.hok, rv, q⟩
end
/-- the lambda at the entry of the def that got it -/
structure LamEnt (L : LW) (f c : Addr) (cl : List (Str × Addr)) (fr : List Str) (ws : List (Option V)) (fs : List Addr) (s : Shared) (H : Hp) : Prop where
  obj : LamObj L f c cl s.heap
  fn : H f = none
  nfr : f ∉ fs
  cells : CellsAt cl fr ws s.heap H
section
variable {X : Cx} {pins : List (Addr × Obj)} {σ : L2.St} {H : Hp} {s : Shared} {cl : List (Str × Addr)} {fr : List Str} {ws : List (Option V)} {L : LW} {f c : Addr}
theorem cells_later (C : CellsAt cl fr ws X.s_0.heap X.H_0) (hx : X.ex = []) (I : Inv X pins σ H s) : CellsAt cl fr ws s.heap H := by
  have nx : ∀ b : Addr, b ∉ X.ex := fun b z => by
    rw [hx] at z
    exact absurd z (by simp)
  have kp : ∀ y c, cl.lookup y = some c → ∀ v, X.s_0.heap.IsCell c v → s.heap.IsCell c v := fun y c e v ⟨o, ho, hd⟩ => by
    obtain ⟨sl, q⟩ := I.base.any ho (C.all y c e).1 (nx c)
    exact ⟨_, q, hd⟩
  refine ⟨C.len, fun y c e => ?_, C.inj, fun i y e => ?_⟩
  · obtain ⟨n, v, z⟩ := C.all y c e
    refine ⟨?_, v, kp y c e v z⟩
    obtain ⟨o, ho, _⟩ := z
    exact I.base.free c o ho n (nx c)
  · obtain ⟨c, hc, hv⟩ := C.has i y e
    refine ⟨c, hc, fun v ev => ?_⟩
    obtain ⟨u, r, z⟩ := hv v ev
    exact ⟨u, r, kp y c hc _ z⟩
theorem obj_later (T : LamEnt L f c cl fr ws X.fs X.s_0 X.H_0) (hx : X.ex = []) (I : Inv X pins σ H s) : LamObj L f c cl s.heap := by
  obtain ⟨pm, ctv, ho⟩ := T.obj
  exact ⟨pm, ctv, I.base.keep f _ ho T.fn T.nfr fun z => by
    rw [hx] at z
    exact absurd z (by simp)⟩
theorem lam_fnAt {h : Heap} (o : LamObj L f c cl h) : PySem.W.FnAt f h := by
  obtain ⟨pm, ctv, ho⟩ := o
  exact ⟨_, _, _, _, ho⟩
end
/-- x(..), x a name that holds the lambda -/
def tAct (i : Nat) (f c : Addr) (q : Str) (sp : Sp) (E : L2.St → XK) (t : TA) : TE := fun σ H Q => σ[i]? = some (some (.ref f)) ∧ t σ H fun vs H1 => H1 c = some (CodeO c q) ∧ sp vs H1 Q (E σ)
section
variable {X : Cx} {CX : CXT} {cl : List (Str × Addr)} {ps fr : List Str} {ws : List (Option V)} {i j k : Nat} {x : Str} {L : LW} {f c : Addr} {sp : List (Option V) → Sp} {E : L2.St → XK} {t : TA} {e : Expr} {es : List Expr} {p pos : Pos}
theorem pe_act (T : LamEnt L f c cl fr ws X.fs X.s_0 X.H_0) (hX : X.ex = []) (O : LOk X.prog X.w X.K X.mg X.base CX k L ps fr sp) (hr : Room j X.A) (hk : k ≤ j) (hx : ∀ σ, PassesAt CX X σ (E σ)) (hN : X.N[i]? = some x) (hv : Vis X.env.scope x) (ha : PA X (e :: es) t)
    (hd : (x == ("__debug__" : Str)) = false := by decide) (hcd : (x == ("__classdict__" : Str)) = false := by decide)
    (he : starEach (e :: es) X.env = (false, eval e X.env) :: starEach es X.env := by rfl) (hpl : (backTo pos (starEach es X.env)).any (·.1) = false := by rfl) :
    PE X (.Call (.Name x p) (e :: es) [] pos) (tAct i f c L.qual (sp ws) E t) := by
  refine ⟨fun pins s σ H Q I h => ?_⟩
  obtain ⟨hs, ht⟩ := h
  refine wpAny_Call_Name_kw (thn ((pe_var (pos := p) hN hv hd hcd).run pins s σ H (fun v H1 => v = .ref f ∧ H1 = H) I ⟨.ref f, hs, rfl, rfl⟩) fun u s1 ⟨v, H1, I1, r1, q1⟩ => ?_)
  obtain ⟨ev, eH⟩ := q1
  subst ev
  rw [eH] at I1
  obtain rfl : u = Value.ref f := r1
  refine PySem.W.callWith_F (first := []) (lam_fnAt (obj_later T hX I1)) (thn (ha.run pos pins s1 σ H _ I1 ht) fun us s2 ⟨vs, H2, I2, r, h2, q⟩ => ⟨lam_fnAt (obj_later T hX I2), ?_⟩) he hpl
  show wpAny _ _ (call (.ref f) us) _ _ _
  refine wpAny_call (codeAny_mono (O.run X.A X.stack s2 H2 us vs ws Q (E σ) f c cl (hr.mono hk) I2.env0 (obj_later T hX I2) h2 (cells_later T.cells hX I2) r q) fun r s' hq => ?_)
  cases r with
  | error e => exact hx σ pins H2 s2 e s' I2 hq
  | ok fl =>
    cases fl with
    | ret u => exact I2.after hq
    | next => exact False.elim hq
    | brk => exact False.elim hq
    | cont => exact False.elim hq
end
/-! ### the def that gets the lambda -/
/-- its promise, told of the very state: the lambda's object stands there, its captured cells hold ws -/
structure FnOkC (P : Program) (w : World) (K : PySem.W.Frag) (mg : Str → Option Value) (base : Heap) (CX : CXT) (k : Nat) (f : Addr) (fd : FuncData) (ps : List Str) (L : LW) (fr : List Str) (sp : Addr → Addr → List (Option V) → Sp) : Prop where
  len : ∀ lf lc ws vs H Q E, sp lf lc ws vs H Q E → vs.length = ps.length
  run : ∀ (A : Around) (outer : List Env) (s : Shared) (H : Hp) (args : Args) (us : List Value) (vs : List V) (Q : VK) (E : XK) (lf lc : Addr) (cl : List (Str × Addr)) (ws : List (Option V)), Room k A → Env0 P w K mg base A outer s H → LamEnt L lf lc cl fr ws (frs outer) s H →
    BindsTo s fd args (ps.zip us) → Vals vs us → sp lf lc ws vs H Q E → codeAny (model P w) A (.call (.ref f) args) (CR CX outer P w H s Q E) s
def CalC (P : Program) (w : World) (K : PySem.W.Frag) (mg : Str → Option Value) (base : Heap) (CX : CXT) (k : Nat) (x : Str) (ps : List Str) (L : LW) (fr : List Str) (sp : Addr → Addr → List (Option V) → Sp) : Prop :=
  ∃ (f : Addr) (fd : FuncData), FnOkC P w K mg base CX k f fd ps L fr sp ∧ mg x = some (.ref f) ∧ PySem.W.keepIn K (.ref f) = true ∧ Binds K fd ps []
section
variable {P : Program} {w : World} {K : PySem.W.Frag} {mg : Str → Option Value} {base : Heap} {L : LW} {fr : List Str}
theorem fun_okC {CX : CXT} {x qual : Str} {st : Stmt} {f : Addr} {fd : FuncData} {N ps : List Str} {k : Nat} {sp : Addr → Addr → List (Option V) → Sp} (F : Fun K x qual st f fd) (S : FnScope N ps (defScope st)) (len : ∀ lf lc ws vs H Q E, sp lf lc ws vs H Q E → vs.length = ps.length)
    (hbody : ∀ (cdv : Value) (A : Around) (outer : List Env) (s : Shared) (H : Hp) (vs : List V) (Q : VK) (E : XK) (lf lc : Addr) (cl : List (Str × Addr)) (ws : List (Option V)), Room k (A.deeper (envOfC qual (defScope st) s.heap.objs.size f cdv)) → LamEnt L lf lc cl fr ws (frs outer) s H → sp lf lc ws vs H Q E →
      ∃ t, PSs (cxOf CX P w K mg base N qual (defScope st) f cdv A outer s H E) (defBody st) t ∧ t { nx := fun _ H' => Q .non H', rt := Q } (start N vs) H) : FnOkC P w K mg base CX (k + 1) f fd ps L fr sp := by
  obtain ⟨oc, od, kV, doc, pm, an, cdv, ct, osl, rfl, lk, hcd⟩ := F.ex
  exact ⟨len, fun A outer s H args us vs Q E lf lc cl ws hr e0 T hb r hsp => LamX.run_ofS lk hcd S hr e0 hb r (len _ _ _ _ _ _ _ hsp) fun hr' => hbody cdv A outer s H vs Q E lf lc cl ws hr' T hsp⟩
/-- the same for a def that lets nothing out -/
theorem fun_okC0 {x qual : Str} {st : Stmt} {f : Addr} {fd : FuncData} {N ps : List Str} {k : Nat} {sp : Addr → Addr → List (Option V) → Sp} (F : Fun K x qual st f fd) (S : FnScope N ps (defScope st)) (len : ∀ lf lc ws vs H Q E, sp lf lc ws vs H Q E → vs.length = ps.length)
    (hbody : ∀ (cdv : Value) (A : Around) (outer : List Env) (s : Shared) (H : Hp) (vs : List V) (Q : VK) (E : XK) (lf lc : Addr) (cl : List (Str × Addr)) (ws : List (Option V)), Room k (A.deeper (envOfC qual (defScope st) s.heap.objs.size f cdv)) → LamEnt L lf lc cl fr ws (frs outer) s H → sp lf lc ws vs H Q E →
      ∃ t, PSs (cxOf CX0 P w K mg base N qual (defScope st) f cdv A outer s H E).nox (defBody st) t ∧ t { nx := fun _ H' => Q .non H', rt := Q } (start N vs) H) : FnOkC P w K mg base CX0 (k + 1) f fd ps L fr sp :=
  fun_okC F S len fun cdv A outer s H vs Q E lf lc cl ws hr T h =>
    let ⟨t, p, q⟩ := hbody cdv A outer s H vs Q E lf lc cl ws hr T h
    ⟨t, p.nox, q⟩
end
/-! ### the maker -/
/-- a def that makes lambdas: as Fun, and its code object at c has the table P -/
structure FunT (K : PySem.W.Frag) (x qual : Str) (st : Stmt) (f : Addr) (fd : FuncData) (c P : Addr) : Prop where
  ex : ∃ (oc : Value) (od : Option Addr) (kV doc pm : Value) (an : Option Addr) (ct : Value) (osl : Array (Option Value)),
    fd = PySem.W.fnOf x qual (defArgs st) (defBody st) (defScope st) .none kV doc pm an (.ref c) ct ∧ K.lookup f = some ⟨oc, od, .func fd, osl⟩ ∧ PySem.W.codeIn K (.ref c) qual = true
section
variable {P : Program} {w : World} {K : PySem.W.Frag} {mg : Str → Option Value} {base : Heap}
theorem funT_ok {x qual : Str} {st : Stmt} {f c PT : Addr} {fd : FuncData} {N ps : List Str} {k : Nat} {sp : Sp} (F : FunT K x qual st f fd c PT) (S : FnScope N ps (defScope st)) (len : ∀ vs H Q E, sp vs H Q E → vs.length = ps.length)
    (hbody : ∀ (A : Around) (outer : List Env) (s : Shared) (H : Hp) (vs : List V) (Q : VK) (E : XK), Room k (A.deeper (envOfC qual (defScope st) s.heap.objs.size f (.ref c))) → sp vs H Q E →
      ∃ t, PSs (cxOf CX0 P w K mg base N qual (defScope st) f (.ref c) A outer s H E).nox (defBody st) t ∧ t { nx := fun _ H' => Q .non H', rt := Q } (start N vs) H) : FnOk P w K mg base CX0 (k + 1) f fd ps sp := by
  obtain ⟨oc, od, kV, doc, pm, an, ct, osl, rfl, lk, hcd⟩ := F.ex
  refine fn_of lk hcd S len fun A outer s H vs Q E hr hsp => ?_
  obtain ⟨t, h, q⟩ := hbody A outer s H vs Q E hr hsp
  exact ⟨t, h.nox, q⟩
theorem funT_okX {x qual : Str} {st : Stmt} {f c PT : Addr} {fd : FuncData} {N ps : List Str} {k : Nat} {sp : Sp} (F : FunT K x qual st f fd c PT) (S : FnScope N ps (defScope st)) (len : ∀ vs H Q E, sp vs H Q E → vs.length = ps.length)
    (hbody : ∀ (A : Around) (outer : List Env) (s : Shared) (H : Hp) (vs : List V) (Q : VK) (E : XK), Room k (A.deeper (envOfC qual (defScope st) s.heap.objs.size f (.ref c))) → sp vs H Q E →
      ∃ t, PSs (cxOf (L2.CX P w) P w K mg base N qual (defScope st) f (.ref c) A outer s H E) (defBody st) t ∧ t { nx := fun _ H' => Q .non H', rt := Q } (start N vs) H) : FnOk P w K mg base (L2.CX P w) (k + 1) f fd ps sp := by
  obtain ⟨oc, od, kV, doc, pm, an, ct, osl, rfl, lk, hcd⟩ := F.ex
  exact fn_of lk hcd S len fun A outer s H vs Q E hr hsp => hbody A outer s H vs Q E hr hsp
end
/-- the arguments, the last one a lambda -/
def LP (X : Cx) (L : LW) (pins : List (Addr × Obj)) (σ : L2.St) (Q : Addr → Addr → List V → Hp → Prop) (us : List Value) (s' : Shared) : Prop := ∃ lf lc vs H', Inv X pins σ H' s' ∧ Vals vs us ∧ LamObj L lf lc (cloFrom X.env.cells L.scope.names []) s'.heap ∧ H' lf = none ∧ lf ∉ frs X.stack ∧ Q lf lc vs H'
abbrev TL := L2.St → Hp → (Addr → Addr → List V → Hp → Prop) → Prop
structure PL (X : Cx) (L : LW) (es : List Expr) (t : TL) : Prop where
  run : ∀ (pos : Pos) (pins : List (Addr × Obj)) (s : Shared) (σ : L2.St) (H : Hp) (Q : Addr → Addr → List V → Hp → Prop), Inv X pins σ H s → t σ H Q → wpAny (model X.prog X.w) X.A (spliced (backTo pos (starEach es X.env))) (LP X L pins σ Q) X.xe s
def tlNil (P : Addr) (q : Str) : TL := fun _ H Q => TabN H P Nm.nm ∧ ∀ lf lc H1, Gr [] H H1 → H1 lc = some (CodeO lc q) → Q lf lc [.ref lf] H1
def tlCons (ta : TE) (t : TL) : TL := fun σ H Q => ta σ H fun x H1 => t σ H1 fun lf lc xs H2 => Q lf lc (x :: xs) H2
section
variable {X : Cx} {CX : CXT} {L : LW} {e : Expr} {es : List Expr} {te : TE} {t : TL} {c PT : Addr} {params : Arguments} {body : Expr} {scope : Scope} {lpos : Pos}
theorem pl_nil (TB : TabB X.base X.mg c PT) (hcode : X.env.code = .ref c) (hq : L.qual = X.env.qual ++ "<lambda>") (hnm : Nm.nm lpos.line lpos.col = L.qual) (hdef : defaultsOf L.params X.env = ([], [])) (hfree : ∀ y ∈ L.scope.names, y.2 = .free → X.env.scope.names.lookup y.1 = some .cell ∨ X.env.scope.names.lookup y.1 = some .free)
    (hs : starEach [.Lambda L.params L.body L.scope lpos] X.env = (false, eval (.Lambda L.params L.body L.scope lpos) X.env) :: starEach [] X.env := by rfl) :
    PL X L [.Lambda L.params L.body L.scope lpos] (tlNil PT L.qual) := by
  refine ⟨fun pos pins s σ H Q I h => ?_⟩
  rw [hs]
  show wpAny _ _ (spliced ((false, eval (.Lambda L.params L.body L.scope lpos) X.env) :: backTo pos (starEach [] X.env))) _ _ s
  obtain ⟨⟨tab, hP, tok, known⟩, hgo⟩ := h
  have fin : ∀ (f c' : Addr) (pm ctv : Value) (H1 : Hp) (s' : Shared), Inv X pins σ H1 s' → Gr [] H H1 → s'.heap.get? f = some (PySem.W.kla_obj "<lambda>" L.qual L.params L.body L.scope (cloFrom X.env.cells L.scope.names []) pm c' ctv) → H1 f = none → s.heap.objs.size ≤ f → H1 c' = some (CodeO c' L.qual) →
      wpAny (model X.prog X.w) X.A (spliced []) (fun us s2 => LP X L pins σ Q (.ref f :: us) s2) X.xe s' := fun f c' pm ctv H1 s' I1 g hf hn hge hco =>
    Calls.spliced_nil ⟨f, c', [.ref f], H1, I1, .cons rfl .nil, ⟨pm, ctv, hf⟩, hn, fun z => by
      rcases List.mem_cons.mp (I.stkSub _ z) with e | e
      · have h1 := I.lt
        rw [← e] at h1
        exact Nat.lt_irrefl _ (Nat.lt_of_lt_of_le h1 hge)
      · exact I.nofs hge e, hgo f c' H1 g hco⟩
  have cfr : closureFor L.scope X.env = pure (cloFrom X.env.cells L.scope.names []) := closure_ok fun y hy e => (hfree y hy e).elim (fun z => I.ok.has _ (.inl z)) fun z => I.ok.has _ (.inr z)
  refine Calls.spliced_cons (PySem.W.kla_eval hdef ?_)
  have bmP := TB.bm.keeps I.bk
  have at0 : s.heap.get? PT = some { cls := .none, data := .fields tab } := I.hok PT _ hP
  rw [← hq]
  by_cases hn : codeAmong lpos tab.toList = none
  · refine PySem.W.kla_makeFunction (mg := X.mg) (c := c) (P := PT) (ps := tab) cfr I.ok.glob (I.mod.glob.keeps I.bk) hcode (TB.code.keeps I.bk) at0 tok hn TB.gP bmP fun c' ctv h' tk grows le lt rec here => ?_
    obtain ⟨_, oc, us, t, e, g1, g2, g3⟩ := rec
    cases e
    have newC : H c' = none := I.hok.fresh le
    have le2 : s.heap.objs.size ≤ h'.objs.size := Nat.le_trans le (Nat.le_of_lt lt)
    have ne1 : h'.objs.size ≠ c' := Nat.ne_of_gt lt
    have ne2 : h'.objs.size ≠ PT := Nat.ne_of_gt (Nat.lt_of_lt_of_le (Heap.lt_size at0) le2)
    have stay : ∀ b o, b ≠ PT → H b = some o → upd (upd H PT (.tbl (tab ++ #[rawInt lpos.line, rawInt lpos.col, .ref c']))) c' (CodeO c' L.qual) b = some o := fun b o n e => by rw [upd_ne (ne_of_none e newC), upd_ne n, e]
    have J := LamX.inv_table (q := L.qual) (t' := tk) (more := #[rawInt lpos.line, rawInt lpos.col, .ref c']) (h' := h'.push (PySem.W.kla_obj "<lambda>" L.qual L.params L.body L.scope (cloFrom X.env.cells L.scope.names []) ((X.mg "__name__").getD .none) c' ctv)) I hP
      (fun b o n e => Heap.get?_push_of_some _ (grows b o n e)) (Heap.get?_push_of_some _ here) le ⟨oc, us, t, Heap.get?_push_of_some _ g1, g2, g3⟩
    refine fin _ c' _ ctv _ _ J ⟨fun b o e => ?_, fun P T => ?_⟩ (Heap.get?_push_size _ rfl) ?_ le2 upd_same
    · by_cases n : b = PT
      · subst n
        rw [hP] at e
        cases e
        exact ⟨_, by rw [upd_ne (ne_of_none hP newC), upd_same], .inr (.inr ⟨rfl, rfl⟩)⟩
      · exact ⟨o, stay b o n e, .inl rfl⟩
    · obtain ⟨p2, a1, a2, a3⟩ := T
      have kn : ∀ (c0 : Addr) (q : Str), H c0 = some (CodeO c0 q) → upd (upd H PT (.tbl (tab ++ #[rawInt lpos.line, rawInt lpos.col, .ref c']))) c' (CodeO c' L.qual) c0 = some (CodeO c0 q) := fun c0 q e => stay c0 _ (fun z => by
        rw [z, hP] at e
        cases e) e
      by_cases n : P = PT
      · subst n
        rw [hP] at a1
        cases a1
        have el : (tab ++ #[rawInt lpos.line, rawInt lpos.col, .ref c']).toList = tab.toList ++ [rawInt lpos.line, rawInt lpos.col, .ref c'] := by simp
        refine ⟨_, by rw [upd_ne (ne_of_none hP newC), upd_same], by rw [el]; exact PySem.TriplesOk_snoc _ _ _ _ a2, fun p cv hc => ?_⟩
        rw [el] at hc
        rcases among_app2 _ a2 hc with z | ⟨z, z1, z2⟩
        · obtain ⟨c0, e1, e2⟩ := a3 p cv z
          exact ⟨c0, e1, kn c0 _ e2⟩
        · exact ⟨c', z, by rw [← z1, ← z2, hnm]; exact upd_same⟩
      · refine ⟨p2, stay P _ n a1, a2, fun p cv hc => ?_⟩
        obtain ⟨c0, e1, e2⟩ := a3 p cv hc
        exact ⟨c0, e1, kn c0 _ e2⟩
    · rw [upd_ne ne1, upd_ne ne2]
      exact I.hok.fresh le2
  · obtain ⟨cv, hcv⟩ := Option.ne_none_iff_exists'.mp hn
    obtain ⟨c', e, hco⟩ := known lpos cv hcv
    subst e
    rw [hnm] at hco
    refine PySem.W.kla_makeFunctionHit (mg := X.mg) (c := c) (P := PT) (ps := tab) cfr I.ok.glob (I.mod.glob.keeps I.bk) hcode (TB.code.keeps I.bk) at0 tok hcv bmP fun ctv h' tk grows le => ?_
    exact fin _ c' _ ctv H _ (I.kept fun b o e => Heap.get?_push_of_some _ (grows b o e)) (Gr.refl H) (Heap.get?_push_size _ rfl) (I.hok.fresh le) le hco
theorem pl_cons (he : PE X e te) (hr : PL X L es t) (hs : starEach (e :: es) X.env = (false, eval e X.env) :: starEach es X.env := by rfl) : PL X L (e :: es) (tlCons te t) := by
  refine ⟨fun pos pins s σ H Q I h => ?_⟩
  rw [hs]
  show wpAny _ _ (spliced ((false, eval e X.env) :: backTo pos (starEach es X.env))) _ _ s
  refine Calls.spliced_cons (thn (he.run pins s σ H _ I h) fun u s1 ⟨x, H1, I1, r1, q1⟩ => ?_)
  exact thn (hr.run pos pins s1 σ H1 _ I1 q1) fun us s2 ⟨lf, lc, xs, H2, I2, r2, o, n, nf, q2⟩ => ⟨lf, lc, x :: xs, H2, I2, .cons r1 r2, o, n, nf, q2⟩
/-- g(.., lambda ..) -/
def tCallL (js : List Nat) (sp : Addr → Addr → List (Option V) → Sp) (E : L2.St → XK) (t : TL) : TE := fun σ H Q => t σ H fun lf lc vs H1 => sp lf lc (js.map (slotAt σ)) vs H1 Q (E σ)
theorem pe_callL {fr ps : List Str} {js : List Nat} {k : Nat} {f : Addr} {fd : FuncData} {x : Str} {sp : Addr → Addr → List (Option V) → Sp} {E : L2.St → XK} {p pos : Pos}
    (F : FnOkC X.prog X.w X.K X.mg X.base CX k f fd ps L fr sp) (hr : Room k X.A) (hg : Gl X x) (hm : X.mg x = some (.ref f)) (hk : PySem.W.keepIn X.K (.ref f) = true) (hb : Binds X.K fd ps []) (hx : ∀ σ, PassesAt CX X σ (E σ)) (cp : X.Ok → Caps X (cloFrom X.env.cells L.scope.names []) fr js)
    (ha : PL X L (e :: es) t) (hdb : (x == ("__debug__" : Str)) = false := by decide) (he : starEach (e :: es) X.env = (false, eval e X.env) :: starEach es X.env := by rfl) (hpl : (backTo pos (starEach es X.env)).any (·.1) = false := by rfl) :
    PE X (.Call (.Name x p) (e :: es) [] pos) (tCallL js sp E t) := by
  refine ⟨fun pins s σ H Q I h => ?_⟩
  refine wpAny_Call_Name_kw (ld_glob I hg hm ?_ hdb)
  refine PySem.W.callWith_K (h₀ := X.base) I.ok.mod.kin hk (thn (ha.run pos pins s σ H _ I h) fun us s1 ⟨lf, lc, vs, H1, I1, r, o, n, nf, q⟩ => ⟨I1.kIn, ?_⟩) he hpl
  have hl : us.length = ps.length := by rw [← r.length]; exact F.len _ _ _ _ _ _ _ q
  have b := hb s1 us I1.kIn (by rw [List.append_nil]; exact hl)
  rw [List.append_nil] at b
  have C := cells_of I1 (cp I1.ok)
  refine wpAny_call (codeAny_mono (F.run X.A X.stack s1 H1 ⟨us, []⟩ us vs Q (E σ) lf lc _ _ hr I1.env0 ⟨o, n, nf, C⟩ b r q) fun r s' hq => ?_)
  cases r with
  | error e => exact hx σ pins H1 s1 e s' I1 hq
  | ok fl =>
    cases fl with
    | ret u => exact I1.after hq
    | next => exact False.elim hq
    | brk => exact False.elim hq
    | cont => exact False.elim hq
end
/-! ### readings -/
section
variable {σ : L2.St} {H : Hp} {Q : VK}
theorem rd_act {i : Nat} {f c : Addr} {q : Str} {sp : Sp} {E : L2.St → XK} {t : TA} (h1 : σ[i]? = some (some (.ref f))) (h : t σ H fun vs H1 => H1 c = some (CodeO c q) ∧ sp vs H1 Q (E σ)) : tAct i f c q sp E t σ H Q := ⟨h1, h⟩
theorem rd_callL {js : List Nat} {sp : Addr → Addr → List (Option V) → Sp} {E : L2.St → XK} {t : TL} (h : t σ H fun lf lc vs H1 => sp lf lc (js.map (slotAt σ)) vs H1 Q (E σ)) : tCallL js sp E t σ H Q := h
theorem rd_lcons {ta : TE} {t : TL} {Q : Addr → Addr → List V → Hp → Prop} (h : ta σ H fun x H1 => t σ H1 fun lf lc xs H2 => Q lf lc (x :: xs) H2) : tlCons ta t σ H Q := h
theorem rd_lnil {P : Addr} {q : Str} {Q : Addr → Addr → List V → Hp → Prop} (h1 : TabN H P Nm.nm) (h : ∀ lf lc H1, Gr [] H H1 → H1 lc = some (CodeO lc q) → Q lf lc [.ref lf] H1) : tlNil P q σ H Q := ⟨h1, h⟩
end
/-- the code object of a lambda -/
def rF (c : Addr) (q : Str) : Rp Unit := fun H _ _ => H c = some (CodeO c q)
instance {c : Addr} {q : Str} : Imm (rF c q) := ⟨fun g h => g _ _ h kd_code⟩
theorem rF_of {c : Addr} {q : Str} {H : Hp} {v : V} (h : H c = some (CodeO c q)) : rF c q H () v := h
/-- the tables of the program -/
def TabsA (TT : List Addr) (H : Hp) : Prop := ∀ P ∈ TT, TabN H P Nm.nm
theorem TabsA.gr {TT A : List Addr} {H H' : Hp} (t : TabsA TT H) (g : Gr A H H') : TabsA TT H' := fun P h => g.tb P (t P h)
theorem passN {X : Cx} : ∀ σ, PassesAt CX0 X σ ((fun _ => E0) σ) := fun _ _ _ _ _ _ _ h => (show False from h).elim
/-! ### where a lambda stands in a text -/
def aReturn (s : Stmt) : Expr := match s with
  | .Return (some e) _ => e
  | _ => .Constant .none 0 ⟨0, 0, 0, 0⟩
def aArg (i : Nat) (e : Expr) : Expr := match e with
  | .Call _ as _ _ => as.getD i e
  | _ => e
def aRight (e : Expr) : Expr := match e with
  | .BinOp _ _ r _ => r
  | _ => e
def aAssign (s : Stmt) : Expr := match s with
  | .Assign _ e _ => e
  | _ => .Constant .none 0 ⟨0, 0, 0, 0⟩
def aBody (i : Nat) (s : Stmt) : Stmt := match s with
  | .For _ _ b _ _ => b.getD i s
  | .FunctionDef _ _ b _ _ _ _ _ _ _ => b.getD i s
  | _ => s
def lwOf (q : Str) (e : Expr) : LW := match e with
  | .Lambda p b sc _ => ⟨q, p, b, sc⟩
  | _ => ⟨q, { posonlyargs := [], args := [], vararg := none, kwonlyargs := [], kw_defaults := [], kwarg := none, defaults := [] }, e, { kind := .function, names := [], isGenerator := false, isCoroutine := false }⟩
theorem funT_mk {K : PySem.W.Frag} {x qual : Str} {st : Stmt} {f c PT : Addr} {oc : Value} {od an : Option Addr} {osl : Array (Option Value)} {kV doc pm ct : Value} (l : K.lookup f = some ⟨oc, od, .func (PySem.W.fnOf x qual (defArgs st) (defBody st) (defScope st) .none kV doc pm an (.ref c) ct), osl⟩)
    (h : PySem.W.codeIn K (.ref c) qual = true) : FunT K x qual st f (PySem.W.fnOf x qual (defArgs st) (defBody st) (defScope st) .none kV doc pm an (.ref c) ct) c PT := ⟨⟨oc, od, kV, doc, pm, an, ct, osl, rfl, l, h⟩⟩
def posE (e : Expr) : Nat × Nat := match e with
  | .Lambda _ _ _ p => (p.line, p.col)
  | _ => (0, 0)
end Mir
set_option Elab.async false
set_option linter.all false
set_option maxRecDepth 100000
namespace Mir
open PySem PySem.Spec PyProof.Rows L2
variable [Nm]
/-! ### enumerate over a tuple -/
section
open PySem.AutoSeq1 (wpAny_loadPart')
theorem enumTup_makes (t : Addr) (items : Array Value) (n : Nat) (dd : Option Addr) (sl : Array (Option Value)) :
    Meets (Builtin.«enumerate.__new__» ⟨[.type "enumerate", .ref t], []⟩) (fun _ R s => s.heap.get? t = some { cls := .type "tuple", dict := dd, data := .seq items n, slots := sl } ∧
      R (.ok (.ret (.ref (s.heap.push { cls := .type "tuple_iterator", data := .fields #[.ref t, .int 0 0] }).objs.size)))
        { s with heap := (s.heap.push { cls := .type "tuple_iterator", data := .fields #[.ref t, .int 0 0] }).push { cls := .type "enumerate", data := .fields #[.none, .bool false, .ref s.heap.objs.size, rawInt 0, .none, .none] } }) :=
  .of_wp fun prog w A R s h => by
    obtain ⟨hp, g, d, tk, os⟩ := s; obtain ⟨ht, h⟩ := h
    have isSub := sub_enumerate
    have isT : Heap.IsTuple (Shared.heap ⟨hp, g, d, tk, os⟩) t items := ⟨_, ht, rfl, n, rfl⟩
    wp_walk using wpAny_loadPart' ht
    refine wpAny_stack_any fun st => wpAny_pure ?_
    split
    · rename_i c _ _ _ _ _
      cases (c == Value.type "enumerate") <;> (wp_walk using wpAny_loadPart' ht, wpAny_pyIter_tuple isT; exact ⟨_, rfl, h⟩)
    · wp_walk using wpAny_loadPart' ht, wpAny_pyIter_tuple isT
      exact ⟨_, rfl, h⟩
end
theorem call_enumT {prog : Program} {w : World} {A : Around} {E : Value → Shared → Prop} {s : Shared} {t : Addr} {items : Array Value} {Q : Value → Shared → Prop} (hT : s.heap.IsTuple t items)
    (h : ∀ h', IsEnum h' (s.heap.objs.size + 1) s.heap.objs.size 0 .none → h'.IsTupleIter s.heap.objs.size t 0 → h'.objs.size = s.heap.objs.size + 2 →
      (∀ b o, s.heap.get? b = some o → h'.get? b = some o) → Q (.ref (s.heap.objs.size + 1)) { s with heap := h' }) :
    wpAny (model prog w) A (call (.type "enumerate") [.ref t]) Q E s := by
  obtain ⟨⟨c, dd, dt, sl⟩, ht, e1, n, e2⟩ := hT
  obtain rfl : c = .type "tuple" := e1
  obtain rfl : dt = .seq items n := e2
  refine callType_new F.called_enumerate (by decide) (F.typeCall_enumerate_1 _) (F.newCall_enumerate_1 _) (fun obj => F.args_object_init_2 obj _) F.entry_enumerate_new (enumTup_makes t items n dd sl) ⟨ht, ?_⟩
  have z : (s.heap.push { cls := .type "tuple_iterator", data := .fields #[.ref t, .int 0 0] }).objs.size = s.heap.objs.size + 1 := Heap.size_push ..
  show _ ∧ _
  have he := Heap.get?_push_size (s.heap.push { cls := .type "tuple_iterator", data := .fields #[.ref t, .int 0 0] }) (o := { cls := .type "enumerate", data := .fields #[.none, .bool false, .ref s.heap.objs.size, rawInt 0, .none, .none] }) rfl
  rw [z] at he ⊢
  exact ⟨⟨_, he, rfl⟩, h _ he ⟨_, Heap.get?_push_of_some _ (Heap.get?_push_size _ rfl), rfl, rfl⟩ (by rw [Heap.size_push, z]) fun b o x => Heap.get?_push_of_some _ (Heap.get?_push_of_some _ x)⟩
/-- the tuple at a, its items in new pairs with their places -/
def ItT (K : PySem.W.Frag) (a : Addr) : It :=
  ⟨fun i H => ∃ (xs : List V) (x : V), SqT K H a xs ∧ xs[i]? = some x, fun i H v H' => ∃ T x, v = .ref T ∧ H T = none ∧ H' = upd H T (.tup [.int (i : Nat), x]) ∧ ∀ xs, SqT K H a xs → xs[i]? = some x, fun i H => ∃ xs : List V, SqT K H a xs ∧ xs.length ≤ i⟩
theorem turn_enumT {P : Program} {w : World} {K : PySem.W.Frag} {elts : List Expr} {kk : Nat} {tpos : Pos} (a e it : Addr) :
    Turn P w K (.Tuple elts kk tpos) (ItT K a) [e, it] e (fun i h => (∃ old, IsEnum h e it ((i : Nat) : Int) old) ∧ h.IsTupleIter it a i ∧ e ≠ it ∧ a ≠ e ∧ a ≠ it) where
  mem := by simp
  obj := fun i h st b hb => by
    obtain ⟨⟨old, he⟩, ⟨o, ho, hc, hd⟩, _⟩ := st
    have e' : b = e ∨ b = it := by simpa using hb
    rcases e' with z | z <;> rw [z]
    · exact ⟨_, he, fun v q => nomatch q⟩
    · exact ⟨o, ho, fun v q => by rw [hd] at q; cases q⟩
  keep := fun i h h' st k => let ⟨⟨old, he⟩, ⟨o, ho, r⟩, hne⟩ := st; ⟨⟨old, k e (by simp) _ he⟩, ⟨o, k it (by simp) _ ho, r⟩, hne⟩
  item := by
    intro X hP hw hK hc i pins s σ H E I hf st hg
    subst hP hw hK
    obtain ⟨⟨old, he⟩, hit, hne, n1, n2⟩ := st
    obtain ⟨xs, x, hq, hx⟩ := hg
    obtain ⟨its, rv, p, hz⟩ := I.tuple hq
    obtain ⟨u, hu, ru⟩ := rv.get hx
    have hel : e < s.heap.objs.size := Heap.lt_size he
    have hil : it < s.heap.objs.size := by obtain ⟨_, q, _⟩ := hit; exact Heap.lt_size q
    have lt : i < its.toArray.size := by
      have q := (List.getElem?_eq_some_iff.mp hu).1
      rw [List.size_toArray]
      exact q
    refine wpAny_pyNext_enum_itemD (Draws.tuple (A := X.A.in1) (show X.A.in1.handled = none from I.ok.hd hc) it a n2 its.toArray) he ⟨hit, p⟩ lt hne (by simp [hne, Ne.symm n1]) fun y h' tk hy ho hit' hT hsz hk => ?_
    have ey : y = u := by
      have e2 : its.toArray[i]? = some u := by simpa using hu
      rw [e2] at hy
      exact (Option.some.inj hy).symm
    subst ey
    refine ⟨_, rfl, wpAny_letOwnedTupleGo_enum (s := { s with heap := h', toks := tk + 1 }) ho fun h'' he' sb => ?_⟩
    have hT2 : h''.get? s.heap.objs.size = some { cls := .type "tuple", data := .seq #[.int i tk, y] } := (sb.2 _ (Nat.ne_of_gt hel)).trans hT
    have new : ObjOk X.prog X.w (upd H s.heap.objs.size (.tup [.int (i : Nat), x])) h'' s.heap.objs.size (.tup [.int (i : Nat), x]) :=
      ⟨by show 2 ≤ sizeLine; decide, [.int i tk, y], .cons ⟨_, rfl⟩ (.cons ru .nil), ⟨_, hT2, rfl, _, rfl⟩⟩
    have I1 : Inv X pins σ (upd H s.heap.objs.size (.tup [.int (i : Nat), x])) { s with heap := h'', toks := tk + 1 } :=
      I.turnedNew (ch := [e, it]) (fun b ob hb q => (sb.2 b (fun z => hb (by simp [z]))).trans (hk b ob (fun z => hb (by simp [z])) (fun z => hb (by simp [z])) q)) hf (Nat.le_refl _) new
    refine ⟨.ref s.heap.objs.size, _, I1, rfl, ⟨_, x, rfl, I.hok.fresh (Nat.le_refl _), rfl, fun ys hy => by rw [I.tuple_inj hy hq]; exact hx⟩, ⟨⟨y, ?_⟩, ?_, hne, n1, n2⟩, fun b hb => ?_⟩
    · have e1 : ((i + 1 : Nat) : Int) = (i : Int) + 1 := by omega
      rw [e1]; exact he'
    · obtain ⟨⟨o, g1, g2⟩, _⟩ := hit'
      exact ⟨o, (sb.2 it (Ne.symm hne)).trans g1, g2⟩
    · have hb' : b < s.heap.objs.size := by
        have e' : b = e ∨ b = it := by simpa using hb
        rcases e' with z | z <;> rw [z]
        · exact hel
        · exact hil
      rw [upd_ne (Nat.ne_of_lt hb')]
      exact (hf b hb).1
  done := by
    intro X hP hw hK hc i pins s σ H E I hf st hg
    subst hP hw hK
    obtain ⟨⟨old, he⟩, hit, hne, n1, n2⟩ := st
    obtain ⟨xs, hq, hx⟩ := hg
    obtain ⟨its, rv, p, hz⟩ := I.tuple hq
    obtain ⟨f0, f1, f2, f3, f4, f5⟩ := hf it (by simp)
    have hl := rv.length
    have hh : (X.A).in1.handled = none := I.ok.hd hc
    have hn : its.toArray[i]? = none := by simp; omega
    have hT : s.TypeIs (.ref e) "enumerate" := ⟨_, he, rfl⟩
    unfold pyNext
    refine wpAny_bind (wpAny_attempt (wpAny_callSpecial?_slot (name := Str.ofString "__next__") hT F.slot_enumerate_next
      (wpAny_call_entry F.slot_enumerate_next hT F.entry_enumerate_next ?_ (F.args_enumerate_next_1 _))))
    show wpAny _ _ (field (.ref e) 2 >>= _) _ _ _
    refine wpAny_bind (wpAny_field he rfl (x := .ref it) rfl ?_)
    refine wpAny_bind (wpAny_nextOf_tuple_end hh hit p hn fun h' x he' hx' => ?_)
    obtain ⟨o, ho, hc'⟩ := hx'
    refine wpAny_bind (wpAny_isInstance (T := "StopIteration") (b := true) ⟨o, ho, hc'⟩ isSubtype_stop ?_)
    exact wpAny_pure ⟨rfl, I.turned (t' := s.toks) (fun b o hb q => he' b o hb q) f0 f1 f3 f4 f5⟩
  self := fun A i s Q E st h => let ⟨⟨_, he⟩, _⟩ := st; wpAny_pyIter_enum he h
def iEnumT (K : PySem.W.Frag) (ta : TA) : TI := fun σ H R => ta σ H fun vs H1 => ∃ a xs, vs = [.ref a] ∧ SqT K H1 a xs ∧ R (ItT K a) H1
theorem pi_enumT {X : Cx} {e1 : Expr} {ta : TA} {p pos tpos : Pos} {elts : List Expr} {kk : Nat} {K : PySem.W.Frag} (hg : Gl X "enumerate") (hm : X.mg "enumerate" = none) (ha : PA X [e1] ta) (hK : X.K = K) (hs : starEach [e1] X.env = [(false, eval e1 X.env)] := by rfl) :
    PI X (.Tuple elts kk tpos) (.Call (.Name "enumerate" p) [e1] [] pos) (iEnumT K ta) := by
  subst hK
  refine ⟨fun pins s σ H R I h => ?_⟩
  refine Call_ (ld_blt I hg hm boot_enumerate (PyProof.Rows.callWith_type1 (thn (ha.run pos pins s σ H _ I h) fun us s1 ⟨vs, H1, I1, r1, q1⟩ => ?_) hs rfl))
  obtain ⟨a, xs, ex, hq, q⟩ := q1
  subst ex
  cases r1 with
  | cons r rr =>
    cases rr
    cases r
    obtain ⟨its, rv, p', hz⟩ := I1.tuple hq
    have la : a < s1.heap.objs.size := by obtain ⟨_, z, _⟩ := id p'; exact Heap.lt_size z
    refine call_enumT p' fun h' he hit hsz hk => wpAny_pyIter_enum he ?_
    have I2 : Inv X pins σ H1 { s1 with heap := h' } := I1.kept (t' := s1.toks) hk
    refine ⟨s1.heap.objs.size + 1, [s1.heap.objs.size + 1, s1.heap.objs.size], _, _, H1, rfl, I2, turn_enumT a (s1.heap.objs.size + 1) s1.heap.objs.size, ⟨⟨.none, he⟩, hit, Nat.succ_ne_self _, Nat.ne_of_lt (Nat.lt_succ_of_lt la), Nat.ne_of_lt la⟩, fun b hb => ?_, q⟩
    have hle : s1.heap.objs.size ≤ b := by
      have e' : b = s1.heap.objs.size + 1 ∨ b = s1.heap.objs.size := by simpa using hb
      rcases e' with z | z <;> rw [z]
      · exact Nat.le_add_right _ _
      · exact Nat.le_refl _
    exact I1.fpOk hle (I1.hok.fresh hle)
theorem walk_enumT {K : PySem.W.Frag} {a : Addr} {xs : List V} : Walk (ItT K a) xs.length (fun H => SqT K H a xs) (YPair (fun i => some (.int (i : Nat))) (fun i => xs[i]?)) := by
  refine ⟨fun i _ hi q => ⟨xs, xs[i], q, by simp [hi]⟩, fun _ q => ⟨xs, q, Nat.le_refl _⟩, fun i H v H' _ q y => ?_⟩
  obtain ⟨T, x, h1, h2, h3, h4⟩ := y
  exact ⟨T, .int (i : Nat), x, h1, h2, h3, rfl, h4 xs q⟩
section
variable {α : Type} {K : PySem.W.Frag} {r : Rp α} {H H0 : Hp} {a : Addr} {xs : List α} {vs : List V}
theorem wk_enumT [Imm r] (hp : Paired (r H0) xs vs) : Wk (ItT K a) (enumF xs) (fun H => SqT K H a vs) (rP K rI r) H0 := ⟨_, by rw [enumF, List.length_zip, rng_length, Nat.min_self, Paired.length hp]; exact walk_enumT, fun A i H v H' g hi h => by
  obtain ⟨T, x, y, rfl, hn, rfl, ex, ey⟩ := h
  cases ex
  obtain ⟨z, hz, hr⟩ := Paired.get1 hp ey
  have hi' : i < (rng 0 xs.length).length := by
    rw [enumF, List.length_zip] at hi
    exact Nat.lt_of_lt_of_le hi (Nat.min_le_left _ _)
  refine ⟨((i : Nat), z), zip_get (by rw [List.getElem?_eq_getElem hi', rng_get]; congr 1; omega) hz, Gr.new hn, T, .int (i : Nat), y, rfl, SqT.of upd_same, rfl, Imm.mono (g.of0' (Gr.new hn)) hr⟩⟩
def enumAT (K : PySem.W.Frag) (R : It → Hp → Prop) (vs : List V) (H1 : Hp) : Prop := ∃ a xs, vs = [.ref a] ∧ SqT K H1 a xs ∧ R (ItT K a) H1
theorem enum_t {R : It → Hp → Prop} {u : V} {b : Addr} {xs : List V} (e : u = .ref b) (h1 : SqT K H b xs) (h : R (ItT K b) H) : enumAT K R [u] H := ⟨b, xs, by rw [e], h1, h⟩
theorem rd_ienumT {l : TA} {σ : L2.St} {R : It → Hp → Prop} (h : l σ H (enumAT K R)) : iEnumT K l σ H R := h
end
/-! ### a tuple times an int -/
theorem tuple_mul_one (l : Addr) (items : Array Value) (n : Nat) (dd : Option Addr) (sl : Array (Option Value)) (x : Int) (u : Tok) (c0 : (decide (x < -(2 ^ 63)) || decide (x ≥ 2 ^ 63)) = false) (c1 : (items.isEmpty || x == 1) = true) :
    Meets (Builtin.«tuple.__mul__» ⟨[.ref l, .int x u], []⟩) (fun _ R s => s.heap.get? l = some { cls := .type "tuple", dict := dd, data := .seq items n, slots := sl } ∧ R (.ok (.ret (.ref l))) s) :=
  .of_wp fun prog w A R s h => by
    obtain ⟨hp, g, d, tk, os⟩ := s
    obtain ⟨hl, h⟩ := h
    have f1 := AutoSeq1.idx_int
    wp_walk using AutoSeq1.wpAny_loadPart' hl
    repeat (first
      | (refine wpAny_ite_false (decide_eq_false (by rw [c0]; exact Bool.false_ne_true)) ?_; wp_walk using AutoSeq1.wpAny_loadPart' hl)
      | (refine wpAny_ite_true (decide_eq_true c1) ?_; wp_walk using AutoSeq1.wpAny_loadPart' hl))
    exact ⟨_, rfl, h⟩
theorem tuple_mul_none (l : Addr) (items : Array Value) (n : Nat) (dd : Option Addr) (sl : Array (Option Value)) (x : Int) (u : Tok) (c0 : (decide (x < -(2 ^ 63)) || decide (x ≥ 2 ^ 63)) = false) (c1 : (items.isEmpty || x == 1) = false) (c2 : (decide (x ≤ 0) || items.isEmpty) = true) :
    Meets (Builtin.«tuple.__mul__» ⟨[.ref l, .int x u], []⟩) (fun _ R s => s.heap.get? l = some { cls := .type "tuple", dict := dd, data := .seq items n, slots := sl } ∧
      R (.ok (.ret (Value.ref s.heap.objs.size))) { s with heap := s.heap.push { cls := Value.type "tuple", data := Data.seq #[] }, toks := s.toks }) :=
  .of_wp fun prog w A R s h => by
    obtain ⟨hp, g, d, tk, os⟩ := s
    obtain ⟨hl, h⟩ := h
    have f1 := AutoSeq1.idx_int
    wp_walk using AutoSeq1.wpAny_loadPart' hl
    repeat (first
      | (refine wpAny_ite_false (decide_eq_false (by rw [c0]; exact Bool.false_ne_true)) ?_; wp_walk using AutoSeq1.wpAny_loadPart' hl)
      | (refine wpAny_ite_false (decide_eq_false (by rw [c1]; exact Bool.false_ne_true)) ?_; wp_walk using AutoSeq1.wpAny_loadPart' hl)
      | (refine wpAny_ite_true (decide_eq_true c2) ?_; wp_walk using AutoSeq1.wpAny_loadPart' hl))
    exact ⟨_, rfl, h⟩
def repL {α : Type} (xs : List α) (k : Int) : List α := (List.replicate k.toNat xs).flatten
def rRepA (K : PySem.W.Frag) : R2 := fun x y H Q => ∃ l k xs, x = .ref l ∧ y = .int k ∧ SqT K H l xs ∧ xs ≠ [] ∧ -1000 ≤ k ∧ k ≤ 1000 ∧ xs.length ≤ 1000 ∧ (k = 1 → Q (.ref l) H) ∧ (k ≠ 1 → ∀ p, H p = none → Q (.ref p) (upd H p (.tup (repL xs k))))
theorem op_repA {X : Cx} {K : PySem.W.Frag} (hK : X.K = K) : OpR X (binaryOp .Mult) (rRepA K) := by
  subst hK
  intro pins s σ H x y v u Q I rx ry h
  obtain ⟨l, k, xs, rfl, rfl, hT, hne, h0, h1, hz, q1, q2⟩ := h
  by_cases k2 : 2 ≤ k
  · exact op_repT pins s σ H _ _ v u Q I rx ry ⟨l, k, xs, rfl, rfl, hT, hne, k2, h1, hz, q2 (by omega)⟩
  cases rx
  obtain ⟨t, rfl⟩ := ry
  obtain ⟨its, r, ⟨⟨cls, dd, data, sl⟩, ho, hc, n, hd⟩, hs⟩ := I.tuple hT
  obtain rfl : cls = .type "tuple" := hc
  obtain rfl : data = .seq its.toArray n := hd
  have ne : its.toArray.isEmpty = false := by
    cases its with
    | nil => cases r; exact absurd rfl hne
    | cons a b => rfl
  have c0 : (decide (k < -(2 ^ 63)) || decide (k ≥ 2 ^ 63)) = false := by
    rw [decide_eq_false (by omega), decide_eq_false (by omega)] <;> rfl
  refine wpAny_binaryOp_repeat_ref (T := "tuple") (U := "int") (by decide) ⟨_, ho, rfl⟩ (fun s' => typeIs_int s' k t) noFill_tuple_mul F.fills_int_mul F.slot_int_rmul repeat_tuple F.slot_int_index.lookup
    (call_meets F.slot_int_rmul (typeIs_int s k t) F.entry_int_rmul (F.args_int_rmul_2 _ _) (int_rmul_tuple k t l its.toArray n dd sl) ⟨ho, rfl, ⟨_, ho, rfl⟩, ?_⟩)
  by_cases e1 : k = 1
  · refine call_meets F.slot_tuple_mul ⟨_, ho, rfl⟩ F.entry_tuple_mul (F.args_tuple_mul_2 _ _) (tuple_mul_one l its.toArray n dd sl k t c0 (by rw [e1, ne]; rfl)) ⟨ho, ?_⟩
    exact ⟨.ref l, H, I, rfl, q1 e1⟩
  · refine call_meets F.slot_tuple_mul ⟨_, ho, rfl⟩ F.entry_tuple_mul (F.args_tuple_mul_2 _ _) (tuple_mul_none l its.toArray n dd sl k t c0 (by rw [ne, Bool.false_or]; exact beq_eq_false_iff_ne.mpr e1) (by rw [decide_eq_true (show k ≤ 0 by omega)]; rfl)) ⟨ho, ?_⟩
    have z : repL xs k = [] := by
      unfold repL
      rw [show k.toNat = 0 by omega]
      rfl
    have q := q2 e1
    rw [z] at q
    refine ⟨.ref s.heap.objs.size, _, I.laid (t' := s.toks) (o := .tup []) (fun b ob q => Heap.get?_push_of_some _ q) (Nat.le_refl _) ?_, rfl, q _ (I.hok.fresh (Nat.le_refl _))⟩
    exact ⟨by show 0 ≤ sizeLine; omega, [], .nil, IsTup.new _ _⟩
/-! ### readings -/
section
variable {α : Type} {K : PySem.W.Frag} {X : Cx} {r : Rp α} {H : Hp} {a b : Addr} {xs ys : List α} {v w : V} {Q : VK} {σ : L2.St} {E : Er → Prop}
theorem catAK (e : X.K = K) : OpR X (binaryOp .Add) (rCatA K) := e ▸ op_catA
theorem sl_tupAK (e : X.K = K) : SlR X (rSlA K) := e ▸ sl_tupA
theorem Paired.nil_l {q : α → V → Prop} {vs : List V} (h : Paired q xs vs) : vs = [] ↔ xs = [] := by
  cases h with
  | nil => simp
  | cons _ _ => simp
theorem cat_TA [Imm r] (hx : rT K r H xs v) (hy : rT K r H ys w) (l : lenOk (xs ++ ys)) (q : ∀ v H', Gr [] H H' → rT K r H' (xs ++ ys) v → Q v H') : rCatA K v w H Q := by
  obtain ⟨a, rfl, vs, h1, h2⟩ := hx
  obtain ⟨b, rfl, ws, h3, h4⟩ := hy
  refine ⟨a, b, vs, ws, rfl, rfl, h1, h3, ?_, fun e => ?_, fun _ e => ?_, fun _ _ p n => ?_⟩
  · have l' : (xs ++ ys).length ≤ sizeLine := l
    rw [List.length_append, Paired.length h2, Paired.length h4] at l'
    exact l'
  · have z : xs = [] := (Paired.nil_l h2).mp e
    subst z
    exact q _ _ (Gr.refl H) ⟨b, rfl, ws, h3, h4⟩
  · have z : ys = [] := (Paired.nil_l h4).mp e
    subst z
    exact q _ _ (Gr.refl H) ⟨a, rfl, vs, h1, by rw [List.append_nil]; exact h2⟩
  · exact q _ _ (Gr.new n) ⟨p, rfl, _, SqT.of upd_same, Paired.app (Paired.imm (Gr.new (A := []) n) h2) (Paired.imm (Gr.new (A := []) n) h4)⟩
theorem Paired.takeD {q : α → V → Prop} {vs : List V} (h : Paired q xs vs) : ∀ i j : Nat, Paired q ((xs.drop i).take j) ((vs.drop i).take j) := by
  induction h with
  | nil => intro i j; simp; exact .nil
  | cons h t ih =>
    rename_i x u xs us
    intro i j
    cases i with
    | succ i => exact ih i j
    | zero =>
      cases j with
      | zero => exact .nil
      | succ j => exact .cons h (by simpa using ih 0 j)
theorem cut_TA [Imm r] {lo hi : Option Int} (h : rT K r H xs v) (q : ∀ v H', Gr [] H H' → rT K r H' (cutT xs lo hi) v → Q v H') : rSlA K v lo hi H Q := by
  obtain ⟨a, rfl, vs, h1, h2⟩ := h
  refine ⟨a, vs, rfl, h1, fun e => ?_, fun _ p n => ?_⟩
  · have z : cutT xs lo hi = xs := by
      unfold cutT
      rw [Paired.length h2, e.1, e.2, List.drop_zero, Nat.sub_zero, ← Paired.length h2, List.take_length]
    exact q _ _ (Gr.refl H) ⟨a, rfl, vs, h1, by rw [z]; exact h2⟩
  · refine q _ _ (Gr.new n) ⟨p, rfl, _, SqT.of upd_same, Paired.imm (Gr.new (A := []) n) ?_⟩
    unfold cutT cutV
    rw [Paired.length h2]
    exact Paired.takeD h2 _ _
theorem tup_of_T (h : rT K r H xs v) (q : Q v H) : ap3 (fun vs H Q => ∃ p ys, vs = [V.ref p] ∧ ((SqL K H p ys ∧ ∀ l, H l = none → Q (.ref l) (upd H l (.tup ys))) ∨ (SqT K H p ys ∧ Q (.ref p) H))) [v] H Q := by
  obtain ⟨a, rfl, vs, h1, _⟩ := h
  exact ⟨a, vs, rfl, .inr ⟨h1, q⟩⟩
/-- how often a tuple, a list may be repeated -/
def repOk {α : Type} (xs : List α) (k : Int) : Prop := -1000 ≤ k ∧ k ≤ 1000 ∧ xs.length ≤ 1000 ∧ xs.length * k.toNat ≤ 1000000
instance (xs : List α) (k : Int) : Decidable (repOk xs k) := inferInstanceAs (Decidable (_ ∧ _))
theorem Paired.rep {q : α → V → Prop} {vs : List V} (h : Paired q xs vs) : ∀ n : Nat, Paired q (List.replicate n xs).flatten (List.replicate n vs).flatten
  | 0 => .nil
  | n + 1 => by
    rw [List.replicate_succ, List.replicate_succ, List.flatten_cons, List.flatten_cons]
    exact Paired.app h (Paired.rep h n)
theorem rep_T [Imm r] {k : Int} (h : rT K r H xs v) (n1 : xs.isEmpty = false) (c : repOk xs k) (q : ∀ v H', Gr [] H H' → rT K r H' (repL xs k) v → Q v H') : rRepA K v (.int k) H Q := by
  obtain ⟨a, rfl, vs, h1, h2⟩ := h
  refine ⟨a, k, vs, rfl, rfl, h1, fun e => ?_, c.1, c.2.1, by rw [← Paired.length h2]; exact c.2.2.1, fun e => ?_, fun _ p n => ?_⟩
  · rw [(Paired.nil_l h2).mp e] at n1
    cases n1
  · subst e
    have z : repL xs 1 = xs := by
      unfold repL
      simp
    exact q _ _ (Gr.refl H) ⟨a, rfl, vs, h1, by rw [z]; exact h2⟩
  · exact q _ _ (Gr.new n) ⟨p, rfl, _, SqT.of upd_same, Paired.imm (Gr.new (A := []) n) (Paired.rep h2 _)⟩
theorem rep_L [Imm r] {k : Int} (h : Ls r H a xs) (c : repOk xs k) (q : ∀ p H', H p = none → Gr [] H H' → Ls r H' p (repL xs k) → Q (.ref p) H') : rRep (.ref a) (.int k) H Q := by
  obtain ⟨vs, h1, h2⟩ := h
  refine ⟨a, k, vs, rfl, rfl, h1, by have := c.1; omega, by have := c.2.1; omega, ?_, fun p n => q _ _ n (Gr.new n) ⟨_, upd_same, Paired.imm (Gr.new (A := []) n) (Paired.rep h2 _)⟩⟩
  rw [← Paired.length h2]
  exact Nat.le_trans c.2.2.2 (by decide)
def pmax (i j : Int) : Int := if j > i then j else i
theorem rd_max {i j : Int} (q : Q (.int (pmax i j)) H) : ap3 (fun xs H Q => ∃ i j, xs = [.int i, .int j] ∧ Q (.int (if j > i then j else i)) H) [.int i, .int j] H Q := ⟨i, j, rfl, q⟩
/-! ### the truth of a list, of a tuple -/
def tTru (K : PySem.W.Frag) (ta : TE) : TT := fun σ H Q => ta σ H fun x H' => ∃ k, TruV K x H' k ∧ Q k H'
theorem pt_tru {e1 : Expr} {ta : TE} (ha : PE X e1 ta) (e : X.K = K) (he : ∀ whole, isTrue e1 X.env whole = (do let v ← whole; standAt e1.pos; holding [v] (truthy v)) := by intro _; rfl) : PT X e1 (tTru K ta) := by
  subst e
  exact pt_truth ha he
def truA (K : PySem.W.Frag) (Q : Bool → Hp → Prop) (x : V) (H' : Hp) : Prop := ∃ k, TruV K x H' k ∧ Q k H'
theorem rd_Tru {ta : TE} {Q : Bool → Hp → Prop} (h : ta σ H (truA K Q)) : tTru K ta σ H Q := h
theorem tru_T {Q : Bool → Hp → Prop} (h : rT K r H xs v) (q : Q (!xs.isEmpty) H) : truA K Q v H := by
  obtain ⟨a, rfl, vs, h1, h2⟩ := h
  refine ⟨_, .inr (.inl ⟨vs, h1, rfl⟩), ?_⟩
  have e : vs.isEmpty = xs.isEmpty := by cases h2 <;> rfl
  rw [e]
  exact q
theorem tru_L {Q : Bool → Hp → Prop} (h : Lq K r H a xs) (q : Q (!xs.isEmpty) H) : truA K Q (.ref a) H := by
  obtain ⟨vs, h1, h2⟩ := h
  refine ⟨_, .inl ⟨vs, h1, rfl⟩, ?_⟩
  have e : vs.isEmpty = xs.isEmpty := by cases h2 <;> rfl
  rw [e]
  exact q
/-! ### reversed(range(n)) -/
def revA (R : It → Hp → Prop) (x : V) (H1 : Hp) : Prop := ∃ n, x = .int n ∧ (-(2 ^ 62) ≤ (0 : Int) ∧ (0 : Int) < 2 ^ 62 ∧ -(2 ^ 62) ≤ n ∧ n < 2 ^ 62 ∧ R (Itc ((0 : Int) + (((n - 0).toNat : Nat) : Int) - 1) (-1) (n - 0).toNat) H1)
theorem rd_rev {n : Int} {R : It → Hp → Prop} (c : rgOk n) (h : R (Itc ((n.toNat : Int) - 1) (-1) n.toNat) H) : revA R (.int n) H := by
  have c1 := c.1
  have c2 := c.2
  refine ⟨n, rfl, by decide, by decide, by omega, by omega, ?_⟩
  rw [show (0 : Int) + (((n - 0).toNat : Nat) : Int) - 1 = (n.toNat : Int) - 1 by omega, show n - 0 = n by omega]
  exact h
theorem rd_irev {l : TE} {R : It → Hp → Prop} (h : l σ H (revA R)) : iRevR (tRg1 l) σ H R := h
/-! ### frozen lists -/
theorem len_Z (h : rZ r H xs v) (q : Q (.int xs.length) H) : ap3 (fun vs H Q => ∃ p ys, vs = [V.ref p] ∧ (SqL K H p ys ∨ SqT K H p ys) ∧ Q (.int ys.length) H) [v] H Q := by
  obtain ⟨a, rfl, hq⟩ := rZ_q (K := K) h
  exact len_L hq q
theorem tup_of_Z [Imm r] (h : rZ r H xs v) (q : ∀ v H', Gr [] H H' → rT K r H' xs v → Q v H') : ap3 (fun vs H Q => ∃ p ys, vs = [V.ref p] ∧ ((SqL K H p ys ∧ ∀ l, H l = none → Q (.ref l) (upd H l (.tup ys))) ∨ (SqT K H p ys ∧ Q (.ref p) H))) [v] H Q := by
  obtain ⟨a, rfl, hq⟩ := rZ_q (K := K) h
  exact tup_of_L hq q
theorem lst_of_Z [Imm r] (h : rZ r H xs v) (q : ∀ p H', H p = none → Gr [] H H' → Ls r H' p xs → Q (.ref p) H') : ap3 (fun vs H Q => ∃ p ys, vs = [V.ref p] ∧ (SqL K H p ys ∨ SqT K H p ys) ∧ ∀ l, H l = none → Q (.ref l) (upd H l (.lst ys))) [v] H Q := by
  obtain ⟨a, rfl, hq⟩ := rZ_q (K := K) h
  exact lst_of_L hq q
/-! ### a list of three taken apart -/
def un3 {α : Type} : List α → R (α × α × α)
  | [a, b, c] => .ok (a, b, c)
  | _ => .out
def un2 {α : Type} : List α → R (α × α)
  | [a, b] => .ok (a, b)
  | _ => .out
def un3A (K : PySem.W.Frag) (P : List V → Prop) (v : V) (H : Hp) : Prop := ∃ b vs, v = .ref b ∧ SqL K H b vs ∧ vs.length = 3 ∧ P vs
theorem rd_glE {t : TGs} {n : Nat} {Q : L2.St → Hp → Prop} (h : un3A K (fun vs => t vs σ H Q) v H) (e : n = 3) : gLst K n t v σ H Q := by
  subst e
  exact h
theorem un3_L {Z : α × α × α → Prop} {P : List V → Prop} (h : Lq K r H a xs) (hm : wp (un3 xs) Z E) (q : ∀ p x y z, r H p.1 x → r H p.2.1 y → r H p.2.2 z → Z p → P [x, y, z]) : un3A K P (.ref a) H := by
  obtain ⟨vs, h1, h2⟩ := h
  match xs, hm with
  | [x1, x2, x3], hm =>
    cases h2 with
    | cons g1 t1 => cases t1 with
      | cons g2 t2 => cases t2 with
        | cons g3 t3 => cases t3; exact ⟨a, _, rfl, h1, rfl, q _ _ _ _ g1 g2 g3 hm⟩
end
/-- an answer that is there -/
def unO {α : Type} : Option α → R α
  | some x => .ok x
  | none => .out
theorem unO_I {H : Hp} {o : Option Int} {v : V} {Z : Int → Prop} {E : Er → Prop} (h : rO rI H o v) (hm : wp (unO o) Z E) : ∃ x, v = .int x ∧ Z x := by
  cases o with
  | none => exact hm.elim
  | some x => exact ⟨x, h.2, hm⟩
end Mir
set_option Elab.async false
set_option linter.all false
namespace Mir
open PySem PySem.Spec PyProof.Rows L2
variable [Nm]
/-! ### the mirrors' own arithmetic -/
section
variable {α σ ρ : Type}
theorem foldR_ok {f : σ → α → R σ} (h : ∀ s x, ∃ s', f s x = .ok s') : ∀ (xs : List α) (s : σ), ∃ s', foldR f s xs = .ok s'
  | [], s => ⟨s, rfl⟩
  | x :: xs, s => by
    obtain ⟨s1, e⟩ := h s x
    obtain ⟨s2, e2⟩ := foldR_ok h xs s1
    exact ⟨s2, by show (f s x).bind _ = _; rw [e]; exact e2⟩
theorem foldR_inv {f : σ → α → R σ} (I : σ → Prop) (P : α → Prop) (h : ∀ s x, I s → P x → ∃ s', f s x = .ok s' ∧ I s') : ∀ (xs : List α) (s : σ), I s → (∀ x ∈ xs, P x) → ∃ s', foldR f s xs = .ok s' ∧ I s'
  | [], s, hs, _ => ⟨s, rfl, hs⟩
  | x :: xs, s, hs, hx => by
    obtain ⟨s1, e, i1⟩ := h s x hs (hx x List.mem_cons_self)
    obtain ⟨s2, e2, i2⟩ := foldR_inv I P h xs s1 i1 fun y hy => hx y (List.mem_cons_of_mem _ hy)
    exact ⟨s2, by show (f s x).bind _ = _; rw [e]; exact e2, i2⟩
theorem whileR_inv {c : σ → R Bool} {f : σ → R σ} (I : σ → Prop) (μ : σ → Nat) (h : ∀ s, I s → (c s = .ok true ∧ ∃ s', f s = .ok s' ∧ I s' ∧ μ s' < μ s) ∨ c s = .ok false) :
    ∀ (n : Nat) (s : σ), I s → μ s < n → ∃ s', whileR c f n s = .ok s' ∧ I s' ∧ c s' = .ok false
  | 0, s, _, hm => absurd hm (Nat.not_lt_zero _)
  | n + 1, s, hs, hm => by
    rcases h s hs with ⟨hc, s', hf, hi, hl⟩ | hc
    · obtain ⟨s2, e, i2, c2⟩ := whileR_inv I μ h n s' hi (by omega)
      refine ⟨s2, ?_, i2, c2⟩
      show (c s).bind _ = _
      rw [hc]
      show (f s).bind _ = _
      rw [hf]
      exact e
    · refine ⟨s, ?_, hs, hc⟩
      show (c s).bind _ = _
      rw [hc]
      rfl
end
theorem grd_ok {c : Prop} [Decidable c] {α : Type} {m : R α} (h : c) : grd c m = m := by
  unfold grd
  exact if_pos h
theorem rng_mem {lo x : Int} : ∀ {n : Nat}, x ∈ rng lo n → lo ≤ x ∧ x < lo + n := by
  intro n
  induction n generalizing lo with
  | zero => intro h; cases h
  | succ n ih =>
    intro h
    rcases List.mem_cons.mp h with rfl | h
    · omega
    · have := ih h
      omega
theorem mem_rng {lo x : Int} : ∀ {n : Nat}, lo ≤ x → x < lo + n → x ∈ rng lo n := by
  intro n
  induction n generalizing lo with
  | zero => intro h1 h2; omega
  | succ n ih =>
    intro h1 h2
    by_cases e : x = lo
    · exact e ▸ List.mem_cons_self
    · exact List.mem_cons_of_mem _ (ih (by omega) (by omega))
end Mir
set_option Elab.async false
set_option linter.all false
set_option maxRecDepth 100000
set_option maxHeartbeats 4000000
namespace Pf
open PySem PySem.Spec PyProof.Rows L2 Mir
open NdefX (Caps ndef_free ndef_fr)
open LamX (CodeO)
def topS (i : Nat) : Stmt := PySem.Challenge.pw_fieldmaps_k01_powers_modulo.main.body.getD i (.Pass ⟨0, 0, 0, 0⟩)

instance : Nm := ⟨fun l c => if (l, c) = posE (aArg 3 (aReturn (aBody 0 (topS 9)))) then "power_modulo.<locals>.<lambda>" else "", fun _ => false⟩

abbrev s__law_state : Stmt := topS 12
abbrev n__law_state : List Str := ["script", "seed", "total", "cell"]
theorem sc__law_state : FnScope n__law_state ["script"] (defScope s__law_state) := ⟨rfl, rfl, rfl, by decide +kernel, rfl, by decide +kernel, by decide +kernel⟩
def m__law_state_b1 (s9 : Int × Int) (x26 : Int) : R (Int × Int) :=
  R.ok (((s9.1 * (1000003 : Int)) + (pabs x26)), (((s9.2 * (48271 : Int)) + x26) % (2147483647 : Int)))
def m__law_state (a_script : (List Int)) : R (List Int) :=
  (foldR m__law_state_b1 ((0 : Int), (1 : Int)) (cutT a_script none (some (63 : Int)))).bind fun s4 => R.ok ([s4.1, s4.2])
def sp__law_state (K : PySem.W.Frag) : Sp := fun vs H Q _ => ∃ (a_script : (List Int)) (p_script : Addr), vs = [.ref p_script] ∧ Lq K rI H p_script a_script ∧ wp (m__law_state a_script) (fun r => ∀ p H', Gr [] H H' → H p = none → Ls rI H' p r → Q (.ref p) H') (fun _ => False)
theorem ok__law_state {P : Program} {w : World} {K : PySem.W.Frag} {mg : Str → Option Value} {base : Heap} {f : Addr} {fd : FuncData} (F : Fun K "_law_state" "_law_state" s__law_state f fd) (z_abs : mg "abs" = none) (z_int : mg "int" = none) : FnOk P w K mg base CX0 1 f fd ["script"] (sp__law_state K) := by
  refine F.ok sc__law_state (fun vs H Q E h => ?_) (fun cdv A outer s H0 vs Q E hr h => ?_)
  · obtain ⟨a_script, p_script, rfl, h_script, hm⟩ := h
    rfl
  · obtain ⟨a_script, p_script, rfl, h_script, hm⟩ := h
    have hm : wp (m__law_state a_script) _ _ := hm
    unfold m__law_state at hm
    refine ⟨_, (pss_cons (ps_set (i := 1) sc__law_state.nd rfl (Or.inl rfl) pe_int) (pss_cons (ps_set (i := 2) sc__law_state.nd rfl (Or.inl rfl) pe_int) (pss_cons (ps_for PassesOwn.never rfl (pi_listK (K := K) (pe_slice (sl_listK (K := K) rfl) (pv 0) po_none (po_some pe_int)) rfl) (pg_name (i := 3) sc__law_state.nd rfl (Or.inl rfl)) (pss_cons (ps_set (i := 1) sc__law_state.nd rfl (Or.inl rfl) (pe_op op_add (pe_op op_mul (pv 1) pe_int) (pe_callB call_abs (by rfl) z_abs (by decide +kernel) (pa_cons (pv 3) pa_nil)))) (pss_one (ps_set (i := 2) sc__law_state.nd rfl (Or.inl rfl) (pe_op op_mod (pe_callTy call_int1 (by rfl) z_int (by decide +kernel) (pa_cons (pe_op op_add (pe_op op_mul (pv 2) pe_int) (pv 3)) pa_nil)) pe_int))))) (pss_one (ps_ret (pe_lst (pa_cons (pv 1) (pa_cons (pv 2) pa_nil)))))))), ?_⟩
    have g0 := Gr.refl (A := []) H0
    refine rd_seq (rd_asg (rd_c (rd_gn ?_)))
    refine rd_nx ?_
    refine rd_seq (rd_asg (rd_c (rd_gn ?_)))
    refine rd_nx ?_
    refine seq_join (t := tFor _ _ _) (wp_bind hm) (fun (s : Int × Int) (σ : L2.St) (H : Hp) => ∃ (o8 : Option V), σ = [some (.ref p_script), some (.int s.1), some (.int s.2), o8] ∧ Gr [] H0 H) (fun N2 hN3 hm => ?_) (fun s4 σ H5 hr6 hm => ?_)
    · have gl7 := Gr.refl (A := []) H0
      refine rd_for (rd_il (rd_sl (rd_var rfl (rd_np (rd_part (rd_c (rd_kI (cut_L (K := K) h_script fun p13 H14 n15 g16 h17 => ?_))))))))
      have nw19 := Gr.free g0 n15
      have nw20 := Gr.free gl7 n15
      have h_script := Lq.g0 g16 h_script
      have g0 := g0.of0' g16
      have gl7 := gl7.of0' g16
      obtain ⟨vs21, hl22, hp23⟩ := id (Ls.q h17)
      have gl25 := Gr.refl (A := []) H14
      refine ⟨_, rfl, ⟨_, hl22⟩, for_lstR (r := rI) (H0 := H14) (fun (s : Int × Int) (σ : L2.St) (H : Hp) => ∃ (o24 : Option V), σ = [some (.ref p_script), some (.int s.1), some (.int s.2), o24] ∧ Gr [] H14 H) hp23 (by exact wp_N hm (fun s σ' H' hr hz => hN3 s σ' H' (by obtain ⟨w0, e, g⟩ := hr; exact ⟨w0, e, gl7.trans g⟩) hz)) ⟨_, rfl, gl25⟩ (fun _ _ _ hr => by obtain ⟨_, _, g⟩ := hr; exact g.lst nin0 hl22) (fun x26 v27 s9 σ H10 N12 hx28 hr11 hm => ?_)⟩
      unfold m__law_state_b1 at hm
      obtain ⟨o31, rfl, g30⟩ := hr11
      have h_script := Lq.gA g30 nin0 h_script
      have g0 := Gr.of0' g0 g30
      have gl25 := Gr.of0' gl25 g30
      obtain rfl := hx28
      refine rd_gn (rd_seq (rd_asg (rd_op (rd_op (rd_var rfl (rd_c (rd_rI (.inr ⟨by decide, by decide⟩) (rd_cb (rd_cons (rd_var rfl (rd_nil (rd_abs (rd_rI0 (rd_gn ?_))))))))))))))
      refine rd_nx ?_
      refine rd_asg (rd_op (rd_cb (rd_cons (rd_op (rd_op (rd_var rfl (rd_c (rd_rI (.inr ⟨by decide, by decide⟩) (rd_var rfl (rd_rI0 (rd_nil (rd_int (rd_c (rd_rI (by show (0 : Int) < 2147483647; decide) (rd_gn ?_)))))))))))))))
      exact hm _ _ ⟨_, rfl, gl25⟩
    obtain ⟨o33, rfl, g32⟩ := hr6
    have h_script := Lq.gA g32 nin0 h_script
    have g0 := Gr.of0' g0 g32
    refine rd_ret (rd_lst (rd_cons (rd_var rfl (rd_cons (rd_var rfl (rd_nil (mk_L (r := rI) (xs := [s4.1, s4.2]) (.cons rfl (.cons rfl .nil)) (by show 2 ≤ sizeLine; decide) fun p34 H35 n36 g37 h38 => ?_)))))))
    have nw39 := Gr.free g0 n36
    have g0 := g0.of0' g37
    exact hm _ _ g0 nw39 h38

abbrev s__law_take : Stmt := topS 13
abbrev n__law_take : List Str := ["state", "m", "value"]
theorem sc__law_take : FnScope n__law_take ["state", "m"] (defScope s__law_take) := ⟨rfl, rfl, rfl, by decide +kernel, rfl, by decide +kernel, by decide +kernel⟩
def m__law_take (a_state : (List Int)) (a_m : Int) : R (Int × (List Int)) :=
  (getL a_state (0 : Int)).bind fun t1 => if (decide ((0 : Int) < t1)) = true then ((getL a_state (0 : Int)).bind fun t5 => grd (0 < a_m) <| (getL a_state (0 : Int)).bind fun t9 => grd (CDiv t9 a_m) <| (setL a_state (0 : Int) (t9 / a_m)).bind fun t13 => R.ok ((t5 % a_m), t13)) else ((getL a_state (1 : Int)).bind fun t17 => (setL a_state (1 : Int) (((t17 * (48271 : Int)) + (11 : Int)) % (2147483647 : Int))).bind fun t20 => (getL t20 (1 : Int)).bind fun t24 => grd (0 < a_m) <| R.ok (((t24 / (7 : Int)) % a_m), t20))
def sp__law_take (K : PySem.W.Frag) : Sp := fun vs H Q _ => ∃ (a_state : (List Int)) (p_state : Addr) (a_m : Int), vs = [.ref p_state, (.int a_m)] ∧ Ls rI H p_state a_state ∧ wp (m__law_take a_state a_m) (fun r => ∀ H', Gr [p_state] H H' → Ls rI H' p_state r.2 → Q (.int r.1) H') (fun _ => False)
theorem ok__law_take {P : Program} {w : World} {K : PySem.W.Frag} {mg : Str → Option Value} {base : Heap} {f : Addr} {fd : FuncData} (F : Fun K "_law_take" "_law_take" s__law_take f fd) (z_int : mg "int" = none) : FnOk P w K mg base CX0 1 f fd ["state", "m"] (sp__law_take K) := by
  refine F.ok sc__law_take (fun vs H Q E h => ?_) (fun cdv A outer s H0 vs Q E hr h => ?_)
  · obtain ⟨a_state, p_state, a_m, rfl, h_state, hm⟩ := h
    rfl
  · obtain ⟨a_state, p_state, a_m, rfl, h_state, hm⟩ := h
    have hm : wp (m__law_take a_state a_m) _ _ := hm
    unfold m__law_take at hm
    refine ⟨_, (pss_cons (ps_if (pt_cmpR op_gt (pe_ix (ix_listK (K := K) rfl) (pv 0) pe_int (fun _ _ => rfl)) pe_int (nomark _)) (pss_cons (ps_set (i := 2) sc__law_take.nd rfl (Or.inl rfl) (pe_op op_mod (pe_callTy call_int1 (by rfl) z_int (by decide +kernel) (pa_cons (pe_ix (ix_listK (K := K) rfl) (pv 0) pe_int (fun _ _ => rfl)) pa_nil)) (pv 1))) (pss_cons (ps_asg (pe_op op_fdiv (pe_ix (ix_listK (K := K) rfl) (pv 0) pe_int (fun _ _ => rfl)) (pv 1)) (pg_sub (pv 0) pe_int set_list)) (pss_one (ps_ret (pv 2))))) pss_nil) (pss_cons (ps_asg (pe_op op_mod (pe_callTy call_int1 (by rfl) z_int (by decide +kernel) (pa_cons (pe_op op_add (pe_op op_mul (pe_ix (ix_listK (K := K) rfl) (pv 0) pe_int (fun _ _ => rfl)) pe_int) pe_int) pa_nil)) pe_int) (pg_sub (pv 0) pe_int set_list)) (pss_one (ps_ret (pe_op op_mod (pe_callTy call_int1 (by rfl) z_int (by decide +kernel) (pa_cons (pe_op op_fdiv (pe_ix (ix_listK (K := K) rfl) (pv 0) pe_int (fun _ _ => rfl)) pe_int) pa_nil)) (pv 1)))))), ?_⟩
    have g0 := Gr.refl (A := [p_state]) H0
    refine rd_seq (rd_if (rd_T (rd_op (rd_op (rd_var rfl (rd_c (ix_L (Ls.q h_state) (wp_bind hm) fun t1 v2 h3 hm => ?_)))))))
    obtain rfl := h3
    refine rd_c (rd_rI0 (rd_kB ?_))
    refine iteB (fun e4 => ?_) (fun e4 => ?_)
    · have hm := ifT e4 (wp_iteB hm)
      refine rd_seq (rd_asg (rd_op (rd_cb (rd_cons (rd_op (rd_var rfl (rd_c (ix_L (Ls.q h_state) (wp_bind hm) fun t5 v6 h7 hm => ?_))))))))
      obtain rfl := h7
      obtain ⟨c8, hm⟩ := wp_grd hm
      refine rd_nil (rd_int (rd_var rfl (rd_rI c8 (rd_gn ?_))))
      refine rd_nx ?_
      refine rd_seq (rd_asg (rd_op (rd_op (rd_var rfl (rd_c (ix_L (Ls.q h_state) (wp_bind hm) fun t9 v10 h11 hm => ?_))))))
      obtain rfl := h11
      obtain ⟨c12, hm⟩ := wp_grd hm
      refine rd_var rfl (rd_rI c12 (rd_gs (rd_var rfl (rd_c (rd_set h_state rfl (wp_bind hm) fun t13 H14 g15 h16 hm => ?_)))))
      have g0 := Gr.at1 g0 (by simp) g15
      refine rd_nx ?_
      exact rd_ret (rd_var rfl (hm _ g0 h16))
    have hm := ifF e4 (wp_iteB hm)
    refine rd_next (rd_nx ?_)
    refine rd_seq (rd_asg (rd_op (rd_cb (rd_cons (rd_op (rd_op (rd_op (rd_var rfl (rd_c (ix_L (Ls.q h_state) (wp_bind hm) fun t17 v18 h19 hm => ?_))))))))))
    obtain rfl := h19
    refine rd_c (rd_rI (.inr ⟨by decide, by decide⟩) (rd_c (rd_rI0 (rd_nil (rd_int (rd_c (rd_rI (by show (0 : Int) < 2147483647; decide) (rd_gs (rd_var rfl (rd_c (rd_set h_state rfl (wp_bind hm) fun t20 H21 g22 h23 hm => ?_)))))))))))
    have g0 := Gr.at1 g0 (by simp) g22
    refine rd_nx ?_
    refine rd_ret (rd_op (rd_cb (rd_cons (rd_op (rd_op (rd_var rfl (rd_c (ix_L (Ls.q h23) (wp_bind hm) fun t24 v25 h26 hm => ?_))))))))
    obtain rfl := h26
    obtain ⟨c27, hm⟩ := wp_grd hm
    exact rd_c (rd_rI ⟨by decide, by decide⟩ (rd_nil (rd_int (rd_var rfl (rd_rI c27 (hm _ g0 h23))))))

abbrev lw_lam1 : LW := lwOf "power_modulo.<locals>.<lambda>" (aArg 3 (aReturn (aBody 0 (topS 9))))
theorem ndb_lam1 : NdefX.ndefB (defScope (topS 9)) lw_lam1.scope ["m"] = true := by decide +kernel
def m_lam1 (k_m : Int) (a_x : Int) (a_y : Int) : R Int :=
  grd (CMul a_x a_y) <| grd (0 < k_m) <| R.ok ((a_x * a_y) % k_m)
def spl_lam1 (K : PySem.W.Frag) : List (Option V) → Sp := fun ws vs H Q _ => ∃ (k_m : Int) (a_x : Int) (a_y : Int), ws = [some (.int k_m)] ∧ vs = [(.int a_x), (.int a_y)] ∧ wp (m_lam1 k_m a_x a_y) (fun r => ∀ H', Gr [] H H' → Q (.int r) H') (fun _ => False)
theorem nsc_lam1 : NdefX.NScope ["x", "y", "m"] ["x", "y"] ["m"] lw_lam1.scope := NdefX.nscope_by (by decide +kernel)
theorem okl_lam1 {P : Program} {w : World} {K : PySem.W.Frag} {mg : Str → Option Value} {base : Heap}  : LOk P w K mg base CX0 1 lw_lam1 ["x", "y"] ["m"] (spl_lam1 K) := by
  refine lok_of nsc_lam1 (fun _ _ _ _ us hl => match us, hl with | [_, _], _ => rfl) (fun ws vs H Q E h => ?_) (fun A outer s H0 vs ws Q E f c cl hr h => ?_)
  · obtain ⟨k_m, a_x, a_y, rfl, rfl, hm⟩ := h
    rfl
  · obtain ⟨k_m, a_x, a_y, rfl, rfl, hm⟩ := h
    have hm : wp (m_lam1 k_m a_x a_y) _ _ := hm
    unfold m_lam1 at hm
    refine ⟨_, (pe_op op_mod (pe_op op_mul (pv 0) (pv 1)) (pv 2)), ?_⟩
    have g0 := Gr.refl (A := []) H0
    obtain ⟨c1, hm⟩ := wp_grd hm
    obtain ⟨c2, hm⟩ := wp_grd hm
    exact rd_op (rd_op (rd_var rfl (rd_var rfl (rd_rI (c1) (rd_var rfl (rd_rI c2 (hm _ g0)))))))

abbrev s_by_squaring : Stmt := topS 8
abbrev n_by_squaring : List Str := ["one", "base", "k", "product", "power", "square", "rest"]
theorem sc_by_squaring : FnScope n_by_squaring ["one", "base", "k", "product"] (defScope s_by_squaring) := ⟨rfl, rfl, rfl, by decide +kernel, rfl, by decide +kernel, by decide +kernel⟩
def m_by_squaring_b1 (s8 : Int × Int × Int) : R Bool :=
  R.ok (decide ((0 : Int) < s8.2.2))
def m_by_squaring_b2 (a_product : (Int → Int → R Int)) (s8 : Int × Int × Int) : R (Int × Int × Int) :=
  (if (decide ((s8.2.2 % (2 : Int)) = (1 : Int))) = true then ((a_product s8.1 s8.2.1).bind fun t27 => R.ok t27) else (R.ok s8.1)).bind fun s22 => if (decide ((0 : Int) < (s8.2.2 / (2 : Int)))) = true then ((a_product s8.2.1 s8.2.1).bind fun t32 => R.ok (s22, t32, (s8.2.2 / (2 : Int)))) else (R.ok (s22, s8.2.1, (s8.2.2 / (2 : Int))))
def m_by_squaring (a_one : Int) (a_base : Int) (a_k : Int) (a_product : (Int → Int → R Int)) : R Int :=
  (whileR m_by_squaring_b1 (m_by_squaring_b2 a_product) 100000 (a_one, a_base, a_k)).bind fun s4 => R.ok s4.1
def sp_by_squaring (K : PySem.W.Frag) : Addr → Addr → List (Option V) → Sp := fun lf lc ws vs H Q _ => ∃ (k_m : Int) (a_one : Int) (a_base : Int) (a_k : Int), ws = [some (.int k_m)] ∧ vs = [(.int a_one), (.int a_base), (.int a_k), .ref lf] ∧ H lc = some (CodeO lc lw_lam1.qual) ∧ wp (m_by_squaring a_one a_base a_k (m_lam1 k_m)) (fun r => ∀ H', Gr [] H H' → Q (.int r) H') (fun _ => False)
theorem ok_by_squaring {P : Program} {w : World} {K : PySem.W.Frag} {mg : Str → Option Value} {base : Heap} {f : Addr} {fd : FuncData} (F : Fun K "by_squaring" "by_squaring" s_by_squaring f fd) (o_lam1 : LOk P w K mg base CX0 1 lw_lam1 ["x", "y"] ["m"] (spl_lam1 K)) : FnOkC P w K mg base CX0 2 f fd ["one", "base", "k", "product"] lw_lam1 ["m"] (sp_by_squaring K) := by
  refine fun_okC0 F sc_by_squaring (fun lf lc ws vs H Q E h => ?_) (fun cdv A outer s H0 vs Q E lf lc cl ws hr T h => ?_)
  · obtain ⟨k_m, a_one, a_base, a_k, rfl, rfl, hcode, hm⟩ := h
    rfl
  · obtain ⟨k_m, a_one, a_base, a_k, rfl, rfl, hcode, hm⟩ := h
    have hm : wp (m_by_squaring a_one a_base a_k (m_lam1 k_m)) _ _ := hm
    unfold m_by_squaring at hm
    refine ⟨_, (pss_cons (ps_set (i := 4) sc_by_squaring.nd rfl (Or.inl rfl) (pv 0)) (pss_cons (ps_set (i := 5) sc_by_squaring.nd rfl (Or.inl rfl) (pv 1)) (pss_cons (ps_set (i := 6) sc_by_squaring.nd rfl (Or.inl rfl) (pv 2)) (pss_cons (ps_while PassesOwn.never (pt_cmpR op_gt (pv 6) pe_int (nomark _)) (pss_cons (ps_if (pt_cmpR op_eqI (pe_op op_mod (pv 6) pe_int) pe_int (nomark _)) (pss_one (ps_set (i := 4) sc_by_squaring.nd rfl (Or.inl rfl) (pe_act (i := 3) T rfl o_lam1 (hr) (by decide) passN rfl (.inl rfl) (pa_cons (pv 4) (pa_cons (pv 5) pa_nil))))) pss_nil) (pss_cons (ps_set (i := 6) sc_by_squaring.nd rfl (Or.inl rfl) (pe_op op_fdiv (pv 6) pe_int)) (pss_one (ps_if (pt_cmpR op_gt (pv 6) pe_int (nomark _)) (pss_one (ps_set (i := 5) sc_by_squaring.nd rfl (Or.inl rfl) (pe_act (i := 3) T rfl o_lam1 (hr) (by decide) passN rfl (.inl rfl) (pa_cons (pv 5) (pa_cons (pv 5) pa_nil))))) pss_nil))))) (pss_one (ps_ret (pv 4))))))), ?_⟩
    have g0 := Gr.refl (A := []) H0
    have h_product : rF lc lw_lam1.qual H0 () (.ref lf) := rF_of hcode
    refine rd_seq (rd_asg (rd_var rfl (rd_gn ?_)))
    refine rd_nx ?_
    refine rd_seq (rd_asg (rd_var rfl (rd_gn ?_)))
    refine rd_nx ?_
    refine rd_seq (rd_asg (rd_var rfl (rd_gn ?_)))
    refine rd_nx ?_
    refine seq_join (t := tWhile _ _) (wp_bind hm) (fun (s : Int × Int × Int) (σ : L2.St) (H : Hp) => σ = [some (.int a_one), some (.int a_base), some (.int a_k), some (.ref lf), some (.int s.1), some (.int s.2.1), some (.int s.2.2)] ∧ Gr [] H0 H) (fun N2 hN3 hm => ?_) (fun s4 σ H5 hr6 hm => ?_)
    · have gl7 := Gr.refl (A := []) H0
      refine whl_R (fun (s : Int × Int × Int) (σ : L2.St) (H : Hp) => σ = [some (.int a_one), some (.int a_base), some (.int a_k), some (.ref lf), some (.int s.1), some (.int s.2.1), some (.int s.2.2)] ∧ Gr [] H0 H) (by exact wp_N hm (fun s σ' H' hr hz => hN3 s σ' H' hr hz)) ⟨rfl, gl7⟩ (fun s8 σ H9 N11 W12 m13 hW14 hr10 hm => ?_)
      unfold m_by_squaring_b1 at hm
      obtain ⟨rfl, g17⟩ := hr10
      have h_product := Imm.mono g17 h_product
      have g0 := Gr.of0' g0 g17
      have gl7 := Gr.of0' gl7 g17
      refine rd_T (rd_op (rd_var rfl (rd_c (rd_rI0 (rd_kB ?_)))))
      refine iteB' (fun e18 => ?_) (fun e18 => ?_)
      · exact ifF e18 hm _ _ ⟨rfl, gl7⟩
      have hm := ifT e18 hm
      unfold m_by_squaring_b2 at hm
      refine ⟨N11, hW14, ?_⟩
      refine seq_join (t := tIfS _ _ _) (wp_bind hm) (fun (s : Int) (σ : L2.St) (H : Hp) => σ = [some (.int a_one), some (.int a_base), some (.int a_k), some (.ref lf), some (.int s), some (.int s8.2.1), some (.int s8.2.2)] ∧ Gr [] H9 H) (fun N20 hN21 hm => ?_) (fun s22 σ H23 hr24 hm => ?_)
      · have gl25 := Gr.refl (A := []) H9
        refine rd_if (rd_T (rd_op (rd_op (rd_var rfl (rd_c (rd_rI (by show (0 : Int) < 2; decide) (rd_c (rd_rI0 (rd_kB ?_)))))))))
        refine iteB (fun e26 => ?_) (fun e26 => ?_)
        · have hm := ifT e26 (wp_iteB hm)
          refine rd_asg (rd_act rfl (rd_cons (rd_var rfl (rd_cons (rd_var rfl (rd_nil ⟨h_product, _, _, _, rfl, rfl, wp_imp (wp_bind hm) (fun t27 hm H28 g29 => ?_) (fun _ e => e)⟩))))))
          have h_product := Imm.mono g29 h_product
          have g0 := g0.of0' g29
          have gl7 := gl7.of0' g29
          have gl25 := gl25.of0' g29
          refine rd_gn ?_
          exact hN21 _ _ _ ⟨rfl, gl25⟩ hm
        have hm := ifF e26 (wp_iteB hm)
        exact rd_next (hN21 _ _ _ ⟨rfl, gl25⟩ hm)
      obtain ⟨rfl, g30⟩ := hr24
      have h_product := Imm.mono g30 h_product
      have g0 := Gr.of0' g0 g30
      have gl7 := Gr.of0' gl7 g30
      refine rd_seq (rd_asg (rd_op (rd_var rfl (rd_c (rd_rI ⟨by decide, by decide⟩ (rd_gn ?_))))))
      refine rd_nx ?_
      refine rd_if (rd_T (rd_op (rd_var rfl (rd_c (rd_rI0 (rd_kB ?_))))))
      refine iteB (fun e31 => ?_) (fun e31 => ?_)
      · have hm := ifT e31 (wp_iteB hm)
        refine rd_asg (rd_act rfl (rd_cons (rd_var rfl (rd_cons (rd_var rfl (rd_nil ⟨h_product, _, _, _, rfl, rfl, wp_imp (wp_bind hm) (fun t32 hm H33 g34 => ?_) (fun _ e => e)⟩))))))
        have h_product := Imm.mono g34 h_product
        have g0 := g0.of0' g34
        have gl7 := gl7.of0' g34
        refine rd_gn ?_
        exact hm _ _ ⟨rfl, gl7⟩
      have hm := ifF e31 (wp_iteB hm)
      exact rd_next (hm _ _ ⟨rfl, gl7⟩)
    obtain ⟨rfl, g35⟩ := hr6
    have h_product := Imm.mono g35 h_product
    have g0 := Gr.of0' g0 g35
    exact rd_ret (rd_var rfl (hm _ g0))

abbrev s_power_modulo : Stmt := topS 9
abbrev n_power_modulo : List Str := ["a", "k", "m"]
theorem sc_power_modulo : FnScope n_power_modulo ["a", "k", "m"] (defScope s_power_modulo) := ⟨rfl, rfl, rfl, by decide +kernel, rfl, by decide +kernel, by decide +kernel⟩
def m_power_modulo (a_a : Int) (a_k : Int) (a_m : Int) : R Int :=
  grd (0 < a_m) <| grd (0 < a_m) <| (m_by_squaring ((1 : Int) % a_m) (a_a % a_m) a_k (m_lam1 a_m)).bind fun t8 => R.ok t8
def sp_power_modulo (K : PySem.W.Frag) (TT : List Addr) : Sp := fun vs H Q _ => ∃ (a_a : Int) (a_k : Int) (a_m : Int), vs = [(.int a_a), (.int a_k), (.int a_m)] ∧ TabsA TT H ∧ wp (m_power_modulo a_a a_k a_m) (fun r => ∀ H', Gr [] H H' → Q (.int r) H') (fun _ => False)
theorem ok_power_modulo {P : Program} {w : World} {K : PySem.W.Frag} {mg : Str → Option Value} {base : Heap} {f : Addr} {fd : FuncData} {TT : List Addr} {cT PT : Addr} (F : FunT K "power_modulo" "power_modulo" s_power_modulo f fd cT PT) (TB : LamX.TabB base mg cT PT) (hPT : PT ∈ TT) (c_by_squaring : CalC P w K mg base CX0 2 "by_squaring" ["one", "base", "k", "product"] lw_lam1 ["m"] (sp_by_squaring K)) : FnOk P w K mg base CX0 3 f fd ["a", "k", "m"] (sp_power_modulo K TT) := by
  obtain ⟨f_by_squaring, fd_by_squaring, G_by_squaring, g_by_squaring, k_by_squaring, b_by_squaring⟩ := c_by_squaring
  refine funT_ok F sc_power_modulo (fun vs H Q E h => ?_) (fun A outer s H0 vs Q E hr h => ?_)
  · obtain ⟨a_a, a_k, a_m, rfl, hTT, hm⟩ := h
    rfl
  · obtain ⟨a_a, a_k, a_m, rfl, hTT, hm⟩ := h
    have hm : wp (m_power_modulo a_a a_k a_m) _ _ := hm
    unfold m_power_modulo at hm
    refine ⟨_, (pss_one (ps_ret (pe_callL (js := [2]) G_by_squaring (hr.mono (by decide)) (by rfl) g_by_squaring k_by_squaring b_by_squaring passN (fun ok => Caps.made ok (ndef_free ndb_lam1) (ndef_fr ndb_lam1) rfl) (pl_cons (pe_op op_mod pe_int (pv 2)) (pl_cons (pe_op op_mod (pv 0) (pv 2)) (pl_cons (pv 1) (pl_nil (L := lw_lam1) TB rfl rfl (by decide +kernel) rfl (ndef_free ndb_lam1)))))))), ?_⟩
    have g0 := Gr.refl (A := []) H0
    obtain ⟨c1, hm⟩ := wp_grd hm
    obtain ⟨c2, hm⟩ := wp_grd hm
    refine rd_ret (rd_callL (rd_lcons (rd_op (rd_c (rd_var rfl (rd_rI c1 (rd_lcons (rd_op (rd_var rfl (rd_var rfl (rd_rI c2 (rd_lcons (rd_var rfl (rd_lnil (hTT.gr g0 _ hPT) fun lf3 lc4 H5 g6 hc7 => ?_))))))))))))))
    have g0 := g0.of0' g6
    refine ⟨_, _, _, _, rfl, rfl, hc7, wp_imp (wp_bind hm) (fun t8 hm H9 g10 => ?_) (fun _ e => e)⟩
    have g0 := g0.of0' g10
    exact hm _ g0

abbrev s__law_gcd : Stmt := topS 14
abbrev n__law_gcd : List Str := ["a", "b"]
theorem sc__law_gcd : FnScope n__law_gcd ["a", "b"] (defScope s__law_gcd) := ⟨rfl, rfl, rfl, by decide +kernel, rfl, by decide +kernel, by decide +kernel⟩
def m__law_gcd_b1 (s8 : Int × Int) : R Bool :=
  R.ok (!decide (s8.2 = (0 : Int)))
def m__law_gcd_b2 (s8 : Int × Int) : R (Int × Int) :=
  grd (0 < s8.2) <| R.ok (s8.2, (s8.1 % s8.2))
def m__law_gcd (a_a : Int) (a_b : Int) : R Int :=
  (whileR m__law_gcd_b1 m__law_gcd_b2 100000 ((pabs a_a), (pabs a_b))).bind fun s4 => R.ok s4.1
def sp__law_gcd (K : PySem.W.Frag) : Sp := fun vs H Q _ => ∃ (a_a : Int) (a_b : Int), vs = [(.int a_a), (.int a_b)] ∧ wp (m__law_gcd a_a a_b) (fun r => ∀ H', Gr [] H H' → Q (.int r) H') (fun _ => False)
theorem ok__law_gcd {P : Program} {w : World} {K : PySem.W.Frag} {mg : Str → Option Value} {base : Heap} {f : Addr} {fd : FuncData} (F : Fun K "_law_gcd" "_law_gcd" s__law_gcd f fd) (z_abs : mg "abs" = none) (z_int : mg "int" = none) : FnOk P w K mg base CX0 1 f fd ["a", "b"] (sp__law_gcd K) := by
  refine F.ok sc__law_gcd (fun vs H Q E h => ?_) (fun cdv A outer s H0 vs Q E hr h => ?_)
  · obtain ⟨a_a, a_b, rfl, hm⟩ := h
    rfl
  · obtain ⟨a_a, a_b, rfl, hm⟩ := h
    have hm : wp (m__law_gcd a_a a_b) _ _ := hm
    unfold m__law_gcd at hm
    refine ⟨_, (pss_cons (ps_set (i := 0) sc__law_gcd.nd rfl (Or.inl rfl) (pe_callB call_abs (by rfl) z_abs (by decide +kernel) (pa_cons (pv 0) pa_nil))) (pss_cons (ps_set (i := 1) sc__law_gcd.nd rfl (Or.inl rfl) (pe_callB call_abs (by rfl) z_abs (by decide +kernel) (pa_cons (pv 1) pa_nil))) (pss_cons (ps_while PassesOwn.never (pt_cmpR op_neI (pv 1) pe_int (nomark _)) (pss_one (ps_par (i := 0) (j := 1) rfl sc__law_gcd.nd rfl rfl (by decide) rfl rfl (pa_cons (pv 1) (pa_cons (pe_op op_mod (pe_callTy call_int1 (by rfl) z_int (by decide +kernel) (pa_cons (pv 0) pa_nil)) (pv 1)) pa_nil)) (by rfl)))) (pss_one (ps_ret (pv 0)))))), ?_⟩
    have g0 := Gr.refl (A := []) H0
    refine rd_seq (rd_asg (rd_cb (rd_cons (rd_var rfl (rd_nil (rd_abs (rd_gn ?_)))))))
    refine rd_nx ?_
    refine rd_seq (rd_asg (rd_cb (rd_cons (rd_var rfl (rd_nil (rd_abs (rd_gn ?_)))))))
    refine rd_nx ?_
    refine seq_join (t := tWhile _ _) (wp_bind hm) (fun (s : Int × Int) (σ : L2.St) (H : Hp) => σ = [some (.int s.1), some (.int s.2)] ∧ Gr [] H0 H) (fun N2 hN3 hm => ?_) (fun s4 σ H5 hr6 hm => ?_)
    · have gl7 := Gr.refl (A := []) H0
      refine whl_R (fun (s : Int × Int) (σ : L2.St) (H : Hp) => σ = [some (.int s.1), some (.int s.2)] ∧ Gr [] H0 H) (by exact wp_N hm (fun s σ' H' hr hz => hN3 s σ' H' hr hz)) ⟨rfl, gl7⟩ (fun s8 σ H9 N11 W12 m13 hW14 hr10 hm => ?_)
      unfold m__law_gcd_b1 at hm
      obtain ⟨rfl, g17⟩ := hr10
      have g0 := Gr.of0' g0 g17
      have gl7 := Gr.of0' gl7 g17
      refine rd_T (rd_op (rd_var rfl (rd_c (rd_rI0 (rd_kB ?_)))))
      refine iteB' (fun e18 => ?_) (fun e18 => ?_)
      · exact ifF e18 hm _ _ ⟨rfl, gl7⟩
      have hm := ifT e18 hm
      unfold m__law_gcd_b2 at hm
      refine ⟨N11, hW14, ?_⟩
      obtain ⟨c19, hm⟩ := wp_grd hm
      refine rd_par (rd_cons (rd_var rfl (rd_cons (rd_op (rd_cb (rd_cons (rd_var rfl (rd_nil (rd_int (rd_var rfl (rd_rI c19 (rd_nil (rd_kp2 ?_)))))))))))))
      exact hm _ _ ⟨rfl, gl7⟩
    obtain ⟨rfl, g20⟩ := hr6
    have g0 := Gr.of0' g0 g20
    exact rd_ret (rd_var rfl (hm _ g0))

abbrev s_cofactors : Stmt := topS 7
abbrev n_cofactors : List Str := ["a", "b", "g", "u", "v", "rest", "rest_u", "rest_v", "quotient"]
theorem sc_cofactors : FnScope n_cofactors ["a", "b"] (defScope s_cofactors) := ⟨rfl, rfl, rfl, by decide +kernel, rfl, by decide +kernel, by decide +kernel⟩
def m_cofactors_b1 (s9 : Int × Int × Int × Int × Int × Int) : R Bool :=
  R.ok (!decide (s9.2.2.2.1 = (0 : Int)))
def m_cofactors_b2 (s9 : Int × Int × Int × Int × Int × Int) : R (Int × Int × Int × Int × Int × Int) :=
  grd (CDivN s9.1 s9.2.2.2.1) <| grd (CMul (Int.fdiv s9.1 s9.2.2.2.1) s9.2.2.2.1) <| grd (CMul (Int.fdiv s9.1 s9.2.2.2.1) s9.2.2.2.2.1) <| grd (CMul (Int.fdiv s9.1 s9.2.2.2.1) s9.2.2.2.2.2) <| R.ok (s9.2.2.2.1, s9.2.2.2.2.1, s9.2.2.2.2.2, (s9.1 - ((Int.fdiv s9.1 s9.2.2.2.1) * s9.2.2.2.1)), (s9.2.1 - ((Int.fdiv s9.1 s9.2.2.2.1) * s9.2.2.2.2.1)), (s9.2.2.1 - ((Int.fdiv s9.1 s9.2.2.2.1) * s9.2.2.2.2.2)))
def m_cofactors (a_a : Int) (a_b : Int) : R (Int × Int × Int) :=
  (whileR m_cofactors_b1 m_cofactors_b2 100000 (a_a, (1 : Int), (0 : Int), a_b, (0 : Int), (1 : Int))).bind fun s4 => if (decide (s4.1 < (0 : Int))) = true then (R.ok ((-s4.1), (-s4.2.1), (-s4.2.2.1))) else (R.ok (s4.1, s4.2.1, s4.2.2.1))
def sp_cofactors (K : PySem.W.Frag) : Sp := fun vs H Q _ => ∃ (a_a : Int) (a_b : Int), vs = [(.int a_a), (.int a_b)] ∧ wp (m_cofactors a_a a_b) (fun r => ∀ v H', Gr [] H H' → (rP3 K rI rI rI) H' r v → Q v H') (fun _ => False)
theorem ok_cofactors {P : Program} {w : World} {K : PySem.W.Frag} {mg : Str → Option Value} {base : Heap} {f : Addr} {fd : FuncData} (F : Fun K "cofactors" "cofactors" s_cofactors f fd) : FnOk P w K mg base CX0 1 f fd ["a", "b"] (sp_cofactors K) := by
  refine F.ok sc_cofactors (fun vs H Q E h => ?_) (fun cdv A outer s H0 vs Q E hr h => ?_)
  · obtain ⟨a_a, a_b, rfl, hm⟩ := h
    rfl
  · obtain ⟨a_a, a_b, rfl, hm⟩ := h
    have hm : wp (m_cofactors a_a a_b) _ _ := hm
    unfold m_cofactors at hm
    refine ⟨_, (pss_cons (ps_par3 (i := 2) (j := 3) (l := 4) rfl sc_cofactors.nd rfl rfl rfl (by decide) (by decide) (by decide) rfl rfl rfl (pa_cons (pv 0) (pa_cons pe_int (pa_cons pe_int pa_nil))) (by rfl)) (pss_cons (ps_par3 (i := 5) (j := 6) (l := 7) rfl sc_cofactors.nd rfl rfl rfl (by decide) (by decide) (by decide) rfl rfl rfl (pa_cons (pv 1) (pa_cons pe_int (pa_cons pe_int pa_nil))) (by rfl)) (pss_cons (ps_while PassesOwn.never (pt_cmpR op_neI (pv 5) pe_int (nomark _)) (pss_cons (ps_set (i := 8) sc_cofactors.nd rfl (Or.inl rfl) (pe_op op_fdivN (pv 2) (pv 5))) (pss_cons (ps_par (i := 2) (j := 5) rfl sc_cofactors.nd rfl rfl (by decide) rfl rfl (pa_cons (pv 5) (pa_cons (pe_op op_sub (pv 2) (pe_op op_mul (pv 8) (pv 5))) pa_nil)) (by rfl)) (pss_cons (ps_par (i := 3) (j := 6) rfl sc_cofactors.nd rfl rfl (by decide) rfl rfl (pa_cons (pv 6) (pa_cons (pe_op op_sub (pv 3) (pe_op op_mul (pv 8) (pv 6))) pa_nil)) (by rfl)) (pss_one (ps_par (i := 4) (j := 7) rfl sc_cofactors.nd rfl rfl (by decide) rfl rfl (pa_cons (pv 7) (pa_cons (pe_op op_sub (pv 4) (pe_op op_mul (pv 8) (pv 7))) pa_nil)) (by rfl))))))) (pss_cons (ps_if (pt_cmpR op_lt (pv 2) pe_int (nomark _)) (pss_one (ps_ret (pe_tup (pa_cons (pe_un un_neg (pv 2)) (pa_cons (pe_un un_neg (pv 3)) (pa_cons (pe_un un_neg (pv 4)) pa_nil)))))) pss_nil) (pss_one (ps_ret (pe_tup (pa_cons (pv 2) (pa_cons (pv 3) (pa_cons (pv 4) pa_nil)))))))))), ?_⟩
    have g0 := Gr.refl (A := []) H0
    refine rd_seq (rd_par3 (rd_cons (rd_var rfl (rd_cons (rd_c (rd_cons (rd_c (rd_nil (rd_kp3 ?_)))))))))
    refine rd_nx ?_
    refine rd_seq (rd_par3 (rd_cons (rd_var rfl (rd_cons (rd_c (rd_cons (rd_c (rd_nil (rd_kp3 ?_)))))))))
    refine rd_nx ?_
    refine seq_join (t := tWhile _ _) (wp_bind hm) (fun (s : Int × Int × Int × Int × Int × Int) (σ : L2.St) (H : Hp) => ∃ (o8 : Option V), σ = [some (.int a_a), some (.int a_b), some (.int s.1), some (.int s.2.1), some (.int s.2.2.1), some (.int s.2.2.2.1), some (.int s.2.2.2.2.1), some (.int s.2.2.2.2.2), o8] ∧ Gr [] H0 H) (fun N2 hN3 hm => ?_) (fun s4 σ H5 hr6 hm => ?_)
    · have gl7 := Gr.refl (A := []) H0
      refine whl_R (fun (s : Int × Int × Int × Int × Int × Int) (σ : L2.St) (H : Hp) => ∃ (o8 : Option V), σ = [some (.int a_a), some (.int a_b), some (.int s.1), some (.int s.2.1), some (.int s.2.2.1), some (.int s.2.2.2.1), some (.int s.2.2.2.2.1), some (.int s.2.2.2.2.2), o8] ∧ Gr [] H0 H) (by exact wp_N hm (fun s σ' H' hr hz => hN3 s σ' H' hr hz)) ⟨_, rfl, gl7⟩ (fun s9 σ H10 N12 W13 m14 hW15 hr11 hm => ?_)
      unfold m_cofactors_b1 at hm
      obtain ⟨o19, rfl, g18⟩ := hr11
      have g0 := Gr.of0' g0 g18
      have gl7 := Gr.of0' gl7 g18
      refine rd_T (rd_op (rd_var rfl (rd_c (rd_rI0 (rd_kB ?_)))))
      refine iteB' (fun e20 => ?_) (fun e20 => ?_)
      · exact ifF e20 hm _ _ ⟨_, rfl, gl7⟩
      have hm := ifT e20 hm
      unfold m_cofactors_b2 at hm
      refine ⟨N12, hW15, ?_⟩
      obtain ⟨c21, hm⟩ := wp_grd hm
      refine rd_seq (rd_asg (rd_op (rd_var rfl (rd_var rfl (rd_rI c21 (rd_gn ?_))))))
      refine rd_nx ?_
      obtain ⟨c22, hm⟩ := wp_grd hm
      refine rd_seq (rd_par (rd_cons (rd_var rfl (rd_cons (rd_op (rd_var rfl (rd_op (rd_var rfl (rd_var rfl (rd_rI (c22) (rd_rI0 (rd_nil (rd_kp2 ?_)))))))))))))
      refine rd_nx ?_
      obtain ⟨c23, hm⟩ := wp_grd hm
      refine rd_seq (rd_par (rd_cons (rd_var rfl (rd_cons (rd_op (rd_var rfl (rd_op (rd_var rfl (rd_var rfl (rd_rI (c23) (rd_rI0 (rd_nil (rd_kp2 ?_)))))))))))))
      refine rd_nx ?_
      obtain ⟨c24, hm⟩ := wp_grd hm
      refine rd_par (rd_cons (rd_var rfl (rd_cons (rd_op (rd_var rfl (rd_op (rd_var rfl (rd_var rfl (rd_rI (c24) (rd_rI0 (rd_nil (rd_kp2 ?_))))))))))))
      exact hm _ _ ⟨_, rfl, gl7⟩
    obtain ⟨o26, rfl, g25⟩ := hr6
    have g0 := Gr.of0' g0 g25
    refine rd_seq (rd_if (rd_T (rd_op (rd_var rfl (rd_c (rd_rI0 (rd_kB ?_)))))))
    refine iteB (fun e27 => ?_) (fun e27 => ?_)
    · have hm := ifT e27 (wp_iteB hm)
      refine rd_ret (rd_tup (rd_cons (rd_un (rd_var rfl (rd_rU (rd_cons (rd_un (rd_var rfl (rd_rU (rd_cons (rd_un (rd_var rfl (rd_rU (rd_nil (mk_P3 (K := K) (r := rI) (s := rI) (t := rI) rfl rfl rfl fun v28 H29 g30 h31 => ?_)))))))))))))))
      have g0 := g0.of0' g30
      exact hm _ _ g0 h31
    have hm := ifF e27 (wp_iteB hm)
    refine rd_next (rd_nx ?_)
    refine rd_ret (rd_tup (rd_cons (rd_var rfl (rd_cons (rd_var rfl (rd_cons (rd_var rfl (rd_nil (mk_P3 (K := K) (r := rI) (s := rI) (t := rI) rfl rfl rfl fun v32 H33 g34 h35 => ?_)))))))))
    have g0 := g0.of0' g34
    exact hm _ _ g0 h35

abbrev s_inverse_modulo : Stmt := topS 10
abbrev n_inverse_modulo : List Str := ["a", "m", "g", "u", "_"]
theorem sc_inverse_modulo : FnScope n_inverse_modulo ["a", "m"] (defScope s_inverse_modulo) := ⟨rfl, rfl, rfl, by decide +kernel, rfl, by decide +kernel, by decide +kernel⟩
def m_inverse_modulo (a_a : Int) (a_m : Int) : R Int :=
  (noEr (m_cofactors a_a a_m)).bind fun t1 => if (!decide (t1.1 = (1 : Int))) = true then (R.er .zd) else (grd (0 < a_m) <| R.ok (t1.2.1 % a_m))
def sp_inverse_modulo (K : PySem.W.Frag) (C : Xc) : Sp := fun vs H Q E => ∃ (a_a : Int) (a_m : Int), vs = [(.int a_a), (.int a_m)] ∧ wp (m_inverse_modulo a_a a_m) (fun r => ∀ H', Gr [] H H' → Q (.int r) H') (XEr C [] H E)
theorem ok_inverse_modulo {P : Program} {w : World} {K : PySem.W.Frag} {mg : Str → Option Value} {base : Heap} {f : Addr} {fd : FuncData} {c_fault c_zd c_mal c_refu c_nt : Addr} (F : Fun K "inverse_modulo" "inverse_modulo" s_inverse_modulo f fd) (Xk_zd : Xk K mg "ZeroDivisor" c_zd) (c_cofactors : Cal P w K mg base CX0 1 "cofactors" ["a", "b"] (sp_cofactors K)) : FnOk P w K mg base (CX P w) 2 f fd ["a", "m"] (sp_inverse_modulo K (⟨some c_fault, some c_zd, some c_mal, some c_refu, some c_nt⟩ : Xc)) := by
  obtain ⟨f_cofactors, fd_cofactors, G_cofactors, g_cofactors, k_cofactors, b_cofactors⟩ := c_cofactors
  refine F.okX sc_inverse_modulo (fun vs H Q E h => ?_) (fun cdv A outer s H0 vs Q E hr h => ?_)
  · obtain ⟨a_a, a_m, rfl, hm⟩ := h
    rfl
  · obtain ⟨a_a, a_m, rfl, hm⟩ := h
    have hm : wp (m_inverse_modulo a_a a_m) _ _ := hm
    unfold m_inverse_modulo at hm
    refine ⟨_, (pss_cons (ps_asg (pe_call G_cofactors (hr.mono (by decide)) (by rfl) g_cofactors k_cofactors b_cofactors .nil pass0 (pa_cons (pv 0) (pa_cons (pv 1) pa_nil))) (pg_tup rfl (pgs_cons (pg_name (i := 2) sc_inverse_modulo.nd rfl (Or.inl rfl)) (pgs_cons (pg_name (i := 3) sc_inverse_modulo.nd rfl (Or.inl rfl)) (pgs_cons (pg_name (i := 4) sc_inverse_modulo.nd rfl (Or.inl rfl)) pgs_nil))))) (pss_cons (ps_if (pt_cmpR op_neI (pv 2) pe_int (nomark _)) (pss_one (ps_raise rfl (takes_of rfl rfl rfl rfl) (pmk_own PySem.F.excBase_ValueError Xk_zd.x Xk_zd.g Xk_zd.k (raises_own Xk_zd.b Xk_zd.t) (by rfl)))) pss_nil) (pss_one (ps_ret (pe_op op_mod (pv 3) (pv 1)))))), ?_⟩
    have g0 := Gr.refl (A := []) H0
    refine rd_seq (rd_asg (rd_call (rd_cons (rd_var rfl (rd_cons (rd_var rfl (rd_nil ⟨_, _, rfl, wp_imp (wp_bindN hm) (fun t1 hm v4 H2 g3 h5 => ?_) (fun _ e => e)⟩)))))))
    have g0 := g0.of0' g3
    obtain ⟨a6, x7, x8, x9, ea14, h10, h11, h12, h13⟩ := id h5
    obtain rfl := h11
    obtain rfl := h12
    obtain rfl := h13
    refine rd_gtE ea14 h10 rfl (rd_gc (rd_gn (rd_gc (rd_gn (rd_gc (rd_gn (rd_g0 ?_)))))))
    refine rd_nx ?_
    refine rd_seq (rd_if (rd_T (rd_op (rd_var rfl (rd_c (rd_rI0 (rd_kB ?_)))))))
    refine iteB (fun e15 => ?_) (fun e15 => ?_)
    · have hm := ifT e15 (wp_iteB hm)
      exact xe0_at hm rfl g0
    have hm := ifF e15 (wp_iteB hm)
    refine rd_next (rd_nx ?_)
    obtain ⟨c16, hm⟩ := wp_grd hm
    exact rd_ret (rd_op (rd_var rfl (rd_var rfl (rd_rI c16 (hm _ g0)))))

abbrev s__law_no_inverse : Stmt := topS 15
abbrev n__law_no_inverse : List Str := ["a", "m", "bad"]
theorem sc__law_no_inverse : FnScope n__law_no_inverse ["a", "m"] (defScope s__law_no_inverse) := ⟨rfl, rfl, rfl, by decide +kernel, rfl, by decide +kernel, by decide +kernel⟩
def m__law_no_inverse (a_a : Int) (a_m : Int) : R Bool :=
  (tryR ((m_inverse_modulo a_a a_m).bind fun t31 => R.ok (Le.dn ())) (fun e => Er.on e ((andR (R.ok true) (andR (R.ok true) (R.ok (!false)))).bind fun t26 => R.ok (Le.rt t26)) (R.er (.mal)) (fun r => R.er (.refu r)) (fun i => R.er (.nt i)))).bind fun o => Le.thn o (fun (_ : Unit) => R.ok false) (fun r => R.ok r)
def sp__law_no_inverse (K : PySem.W.Frag) : Sp := fun vs H Q _ => ∃ (a_a : Int) (a_m : Int), vs = [(.int a_a), (.int a_m)] ∧ wp (m__law_no_inverse a_a a_m) (fun r => ∀ H', Gr [] H H' → Q (.bl r) H') (fun _ => False)
theorem ok__law_no_inverse {P : Program} {w : World} {K : PySem.W.Frag} {mg : Str → Option Value} {base : Heap} {f : Addr} {fd : FuncData} {c_fault c_zd c_mal c_refu c_nt : Addr} (F : Fun K "_law_no_inverse" "_law_no_inverse" s__law_no_inverse f fd) (z_isinstance : mg "isinstance" = none) (z_ValueError : mg "ValueError" = none) (em_zd_zd : PySem.W.exmOne K (.ref c_zd) (.ref c_zd) = some true) (EC_zd : ExcC K c_zd) (gc_fault : mg "Fault" = some (.ref c_fault)) (ko_zd_Fault : PySem.W.kitOne K (.ref c_zd) (.ref c_fault) = some true) (ko_zd_ValueError : PySem.W.kitOne K (.ref c_zd) (.type "ValueError") = some true) (gc_mal : mg "Malformed" = some (.ref c_mal)) (gc_nt : mg "NoText" = some (.ref c_nt)) (gc_refu : mg "Refused" = some (.ref c_refu)) (ka_zd_Malformed_NoText_Refused : PySem.W.kitAny K (.ref c_zd) [(.ref c_mal), (.ref c_nt), (.ref c_refu)] = some false) (gc_zd : mg "ZeroDivisor" = some (.ref c_zd)) (c_inverse_modulo : Cal P w K mg base (CX P w) 2 "inverse_modulo" ["a", "m"] (sp_inverse_modulo K (⟨some c_fault, some c_zd, some c_mal, some c_refu, some c_nt⟩ : Xc))) : FnOk P w K mg base CX0 3 f fd ["a", "m"] (sp__law_no_inverse K) := by
  obtain ⟨f_inverse_modulo, fd_inverse_modulo, G_inverse_modulo, g_inverse_modulo, k_inverse_modulo, b_inverse_modulo⟩ := c_inverse_modulo
  refine F.ok sc__law_no_inverse (fun vs H Q E h => ?_) (fun cdv A outer s H0 vs Q E hr h => ?_)
  · obtain ⟨a_a, a_m, rfl, hm⟩ := h
    rfl
  · obtain ⟨a_a, a_m, rfl, hm⟩ := h
    have hm : wp (m__law_no_inverse a_a a_m) _ _ := hm
    unfold m__law_no_inverse at hm
    refine ⟨_, (pss_cons (ps_tryAs (i := 2) rfl rfl sc__law_no_inverse.nd rfl rfl ⟨by rfl, by decide, .inl gc_zd⟩ takes0 (fun W pn xe tk po => (pss_one (ps_expr (pe_callS G_inverse_modulo (hr.mono (by decide)) (by rfl) g_inverse_modulo k_inverse_modulo b_inverse_modulo (fun σ => passAt tk σ) (pa_cons (pv 0) (pa_cons (pv 1) pa_nil)))))) (fun ax oe cls d pn hz hf => (pss_one (ps_ret (pe_and (pe_callB (call_isX hz hf) (by rfl) z_isinstance (by decide +kernel) (pa_cons (pv 2) (pa_cons (pe_glob (v := .ref c_fault) (by rfl) gc_fault rfl) pa_nil))) (pe_and (pe_callB (call_isX hz hf) (by rfl) z_isinstance (by decide +kernel) (pa_cons (pv 2) (pa_cons (pe_bltn (by rfl) z_ValueError (by decide +kernel) (show L2.RelV (.ty "ValueError") (.type "ValueError") from rfl)) pa_nil))) (pe_one (pe_not (pe_callB (call_isX hz hf) (by rfl) z_isinstance (by decide +kernel) (pa_cons (pv 2) (pa_cons (pe_tup (pa_cons (pe_glob (v := .ref c_mal) (by rfl) gc_mal rfl) (pa_cons (pe_glob (v := .ref c_nt) (by rfl) gc_nt rfl) (pa_cons (pe_glob (v := .ref c_refu) (by rfl) gc_refu rfl) pa_nil)))) pa_nil))))))))))) (pss_one (ps_ret pe_bl))), ?_⟩
    have g0 := Gr.refl (A := []) H0
    refine seq_joinL (t := tTryAs _ _ _ _ _ _) (wp_le hm) (fun (s : Unit) (σ : L2.St) (H : Hp) => σ = [some (.int a_a), some (.int a_m), none] ∧ Gr [] H0 H) (fun N hm => ?_) (fun s3 σ H4 hr5 hm => ?_)
    · have gl6 := Gr.refl (A := []) H0
      refine rd_tryAs (⟨some c_fault, some c_zd, some c_mal, some c_refu, some c_nt⟩ : Xc) ((fun (s : Unit) (σ : L2.St) (H : Hp) => σ = [some (.int a_a), some (.int a_m), none] ∧ Gr [] H0 H) ()) hm (fun e σ H7 hrx hm => ?_) (fun W9 hx8 hm => ?_)
      · skip
        obtain ⟨rfl, g10⟩ := hrx
        have g0 := Gr.of0' g0 g10
        have gl6 := Gr.of0' gl6 g10
        cases e with
        | zd =>
          have hm := wp_on_zd hm
          refine ⟨_, rfl, fun H11 g12 => ⟨true, em_zd_zd, fun _ ax hax => ?_, fun q => nomatch q⟩⟩
          have g0 := g0.of0' g12
          have gl6 := gl6.of0' g12
          refine rd_ret ((ev_andV3 (fun Q hm => by
              have gb15 := Gr.refl (A := []) H11
              exact rd_cb (rd_cons (rd_var rfl (rd_cons (rd_c (rd_nil (isX_one EC_zd ko_zd_Fault (fun _ h => h) (hm _ _ gb15 rfl)))))))) (fun H16 g17 Q hm => by
              have g0 := g0.of0' g17
              have gl6 := gl6.of0' g17
              have gb18 := Gr.refl (A := []) H16
              exact rd_cb (rd_cons (rd_var rfl (rd_cons (rd_c (rd_nil (isX_one EC_zd ko_zd_ValueError (fun _ h => h) (hm _ _ gb18 rfl)))))))) (fun H19 g20 Q hm => by
              have g0 := g0.of0' g20
              have gl6 := gl6.of0' g20
              have gb21 := Gr.refl (A := []) H19
              refine rd_notV (rd_cb (rd_cons (rd_var rfl (rd_cons (rd_tup (rd_cons (rd_c (rd_cons (rd_c (rd_cons (rd_c (rd_nil (mk_X (by show 3 ≤ sizeLine; decide) fun p22 H23 g24 h25 => ?_)))))))))))))
              have g0 := g0.of0' g24
              have gl6 := gl6.of0' g24
              have gb21 := gb21.of0' g24
              exact rd_nil (isX_tup EC_zd h25 (fun _ => vals_refs (cs := [c_mal, c_nt, c_refu])) ka_zd_Malformed_NoText_Refused (rd_kN (hm _ _ gb21 rfl))))) _ (wp_imp (wp_bind hm) (fun t26 hm v29 H27 g28 h30 => ?_) (fun _ e => e)))
          obtain rfl := h30
          have g0 := g0.of0' g28
          have gl6 := gl6.of0' g28
          exact hm _ g0
        | mal => exact (show False from hm).elim
        | refu r => exact (show False from hm).elim
        | nt i => exact (show False from hm).elim
      refine rd_drop (rd_callS (rd_cons (rd_var rfl (rd_cons (rd_var rfl (rd_nil ⟨_, _, rfl, wp_imp (wp_bind hm) (fun t31 hm H32 g33 => ?_) (fun _ e => hx8 _ _ _ ⟨rfl, gl6⟩ e)⟩))))))
      have g0 := g0.of0' g33
      have gl6 := gl6.of0' g33
      exact hm _ _ ⟨rfl, gl6⟩
    obtain ⟨rfl, g34⟩ := hr5
    have g0 := Gr.of0' g0 g34
    exact rd_ret (rd_c (hm _ g0))

abbrev s_law : Stmt := topS 16
abbrev n_law : List Str := ["script", "state", "a", "k", "m", "due", "turn", "b"]
theorem sc_law : FnScope n_law ["script"] (defScope s_law) := ⟨rfl, rfl, rfl, by decide +kernel, rfl, by decide +kernel, by decide +kernel⟩
def m_law_b1 (t9 : Int × (List Int)) (t17 : Int × (List Int)) (s30 : Int) (x36 : Int) : R (Int) :=
  grd (CMul s30 (t9.1 - (100 : Int))) <| grd (0 < ((1 : Int) + t17.1)) <| R.ok ((s30 * (t9.1 - (100 : Int))) % ((1 : Int) + t17.1))
def m_law (a_script : (List Int)) : R Bool :=
  (m__law_state a_script).bind fun t1 => (m__law_take t1 (201 : Int)).bind fun t9 => (m__law_take t9.2 (41 : Int)).bind fun t13 => (m__law_take t13.2 (60 : Int)).bind fun t17 => grd (0 < ((1 : Int) + t17.1)) <| (grd (rgOk t13.1) <| foldR (m_law_b1 t9 t17) ((1 : Int) % ((1 : Int) + t17.1)) (rng 0 (t13.1).toNat)).bind fun s25 => (m_power_modulo (t9.1 - (100 : Int)) t13.1 ((1 : Int) + t17.1)).bind fun t46 => if (!decide (t46 = s25)) = true then (R.ok false) else ((m__law_gcd (t9.1 - (100 : Int)) ((1 : Int) + t17.1)).bind fun t50 => if (!decide (t50 = (1 : Int))) = true then ((m__law_no_inverse (t9.1 - (100 : Int)) ((1 : Int) + t17.1)).bind fun t54 => R.ok t54) else ((m_inverse_modulo (t9.1 - (100 : Int)) ((1 : Int) + t17.1)).bind fun t57 => (andR (R.ok ((decide ((0 : Int) ≤ t57)) && (decide (t57 < ((1 : Int) + t17.1))))) (grd (CMul (t9.1 - (100 : Int)) t57) <| grd (0 < ((1 : Int) + t17.1)) <| R.ok (decide (((((t9.1 - (100 : Int)) * t57) - (1 : Int)) % ((1 : Int) + t17.1)) = (0 : Int))))).bind fun t66 => R.ok t66))
def sp_law (K : PySem.W.Frag) (TT : List Addr) : Sp := fun vs H Q _ => ∃ (a_script : (List Int)) (p_script : Addr), vs = [.ref p_script] ∧ Lq K rI H p_script a_script ∧ TabsA TT H ∧ wp (m_law a_script) (fun r => ∀ H', Gr [] H H' → Q (.bl r) H') (fun _ => False)
theorem ok_law {P : Program} {w : World} {K : PySem.W.Frag} {mg : Str → Option Value} {base : Heap} {f : Addr} {fd : FuncData} {c_fault c_zd c_mal c_refu c_nt : Addr} {TT : List Addr} (F : Fun K "law" "law" s_law f fd) (z_range : mg "range" = none) (c__law_state : Cal P w K mg base CX0 1 "_law_state" ["script"] (sp__law_state K)) (c__law_take : Cal P w K mg base CX0 1 "_law_take" ["state", "m"] (sp__law_take K)) (c_power_modulo : Cal P w K mg base CX0 3 "power_modulo" ["a", "k", "m"] (sp_power_modulo K TT)) (c__law_gcd : Cal P w K mg base CX0 1 "_law_gcd" ["a", "b"] (sp__law_gcd K)) (c__law_no_inverse : Cal P w K mg base CX0 3 "_law_no_inverse" ["a", "m"] (sp__law_no_inverse K)) (c_inverse_modulo : Cal P w K mg base (CX P w) 2 "inverse_modulo" ["a", "m"] (sp_inverse_modulo K (⟨some c_fault, some c_zd, some c_mal, some c_refu, some c_nt⟩ : Xc))) : FnOk P w K mg base CX0 4 f fd ["script"] (sp_law K TT) := by
  obtain ⟨f__law_state, fd__law_state, G__law_state, g__law_state, k__law_state, b__law_state⟩ := c__law_state
  obtain ⟨f__law_take, fd__law_take, G__law_take, g__law_take, k__law_take, b__law_take⟩ := c__law_take
  obtain ⟨f_power_modulo, fd_power_modulo, G_power_modulo, g_power_modulo, k_power_modulo, b_power_modulo⟩ := c_power_modulo
  obtain ⟨f__law_gcd, fd__law_gcd, G__law_gcd, g__law_gcd, k__law_gcd, b__law_gcd⟩ := c__law_gcd
  obtain ⟨f__law_no_inverse, fd__law_no_inverse, G__law_no_inverse, g__law_no_inverse, k__law_no_inverse, b__law_no_inverse⟩ := c__law_no_inverse
  obtain ⟨f_inverse_modulo, fd_inverse_modulo, G_inverse_modulo, g_inverse_modulo, k_inverse_modulo, b_inverse_modulo⟩ := c_inverse_modulo
  refine F.ok sc_law (fun vs H Q E h => ?_) (fun cdv A outer s H0 vs Q E hr h => ?_)
  · obtain ⟨a_script, p_script, rfl, h_script, hTT, hm⟩ := h
    rfl
  · obtain ⟨a_script, p_script, rfl, h_script, hTT, hm⟩ := h
    have hm : wp (m_law a_script) _ _ := hm
    unfold m_law at hm
    refine ⟨_, (pss_cons (ps_set (i := 1) sc_law.nd rfl (Or.inl rfl) (pe_call G__law_state (hr.mono (by decide)) (by rfl) g__law_state k__law_state b__law_state .nil pass0 (pa_cons (pv 0) pa_nil))) (pss_cons (ps_par3 (i := 2) (j := 3) (l := 4) rfl sc_law.nd rfl rfl rfl (by decide) (by decide) (by decide) rfl rfl rfl (pa_cons (pe_op op_sub (pe_call G__law_take (hr.mono (by decide)) (by rfl) g__law_take k__law_take b__law_take .nil pass0 (pa_cons (pv 1) (pa_cons pe_int pa_nil))) pe_int) (pa_cons (pe_call G__law_take (hr.mono (by decide)) (by rfl) g__law_take k__law_take b__law_take .nil pass0 (pa_cons (pv 1) (pa_cons pe_int pa_nil))) (pa_cons (pe_op op_add pe_int (pe_call G__law_take (hr.mono (by decide)) (by rfl) g__law_take k__law_take b__law_take .nil pass0 (pa_cons (pv 1) (pa_cons pe_int pa_nil)))) pa_nil))) (by rfl)) (pss_cons (ps_set (i := 5) sc_law.nd rfl (Or.inl rfl) (pe_op op_mod pe_int (pv 4))) (pss_cons (ps_for PassesOwn.never rfl (pi_range1 (by rfl) z_range (pa_cons (pv 3) pa_nil)) (pg_name (i := 6) sc_law.nd rfl (Or.inl rfl)) (pss_one (ps_set (i := 5) sc_law.nd rfl (Or.inl rfl) (pe_op op_mod (pe_op op_mul (pv 5) (pv 2)) (pv 4))))) (pss_cons (ps_if (pt_cmpR op_neI (pe_call G_power_modulo (hr.mono (by decide)) (by rfl) g_power_modulo k_power_modulo b_power_modulo .nil pass0 (pa_cons (pv 2) (pa_cons (pv 3) (pa_cons (pv 4) pa_nil)))) (pv 5) (nomark _)) (pss_one (ps_ret pe_bl)) pss_nil) (pss_cons (ps_if (pt_cmpR op_neI (pe_call G__law_gcd (hr.mono (by decide)) (by rfl) g__law_gcd k__law_gcd b__law_gcd .nil pass0 (pa_cons (pv 2) (pa_cons (pv 4) pa_nil))) pe_int (nomark _)) (pss_one (ps_ret (pe_call G__law_no_inverse (hr.mono (by decide)) (by rfl) g__law_no_inverse k__law_no_inverse b__law_no_inverse .nil pass0 (pa_cons (pv 2) (pa_cons (pv 4) pa_nil))))) pss_nil) (pss_cons (ps_set (i := 7) sc_law.nd rfl (Or.inl rfl) (pe_call G_inverse_modulo (hr.mono (by decide)) (by rfl) g_inverse_modulo k_inverse_modulo b_inverse_modulo .nil passL (pa_cons (pv 2) (pa_cons (pv 4) pa_nil)))) (pss_one (ps_ret (pe_and (pe_chain op_le op_lt pe_int (pv 7) (pv 4)) (pe_one (pe_cmpR op_eqI (pe_op op_mod (pe_op op_sub (pe_op op_mul (pv 2) (pv 7)) pe_int) (pv 4)) pe_int (nomark _))))))))))))), ?_⟩
    have g0 := Gr.refl (A := []) H0
    refine rd_seq (rd_asg (rd_call (rd_cons (rd_var rfl (rd_nil ⟨_, _, rfl, h_script, wp_imp (wp_bind hm) (fun t1 hm p4 H2 g3 n5 h6 => ?_) (fun _ e => e)⟩)))))
    have nw8 := Gr.free g0 n5
    have h_script := Lq.g0 g3 h_script
    have g0 := g0.of0' g3
    refine rd_gn ?_
    refine rd_nx ?_
    refine rd_seq (rd_par3 (rd_cons (rd_op (rd_call (rd_cons (rd_var rfl (rd_cons (rd_c (rd_nil ⟨_, _, _, rfl, h6, wp_imp (wp_bind hm) (fun t9 hm H10 g11 h12 => ?_) (fun _ e => e)⟩)))))))))
    have g0 := Gr.loc g0 nw8 g11
    refine rd_c (rd_rI0 (rd_cons (rd_call (rd_cons (rd_var rfl (rd_cons (rd_c (rd_nil ⟨_, _, _, rfl, h12, wp_imp (wp_bind hm) (fun t13 hm H14 g15 h16 => ?_) (fun _ e => e)⟩))))))))
    have g0 := Gr.loc g0 nw8 g15
    refine rd_cons (rd_op (rd_c (rd_call (rd_cons (rd_var rfl (rd_cons (rd_c (rd_nil ⟨_, _, _, rfl, h16, wp_imp (wp_bind hm) (fun t17 hm H18 g19 h20 => ?_) (fun _ e => e)⟩))))))))
    have g0 := Gr.loc g0 nw8 g19
    refine rd_rI0 (rd_nil (rd_kp3 ?_))
    refine rd_nx ?_
    obtain ⟨c21, hm⟩ := wp_grd hm
    refine rd_seq (rd_asg (rd_op (rd_c (rd_var rfl (rd_rI c21 (rd_gn ?_))))))
    refine rd_nx ?_
    refine seq_join (t := tFor _ _ _) (wp_bind hm) (fun (s : Int) (σ : L2.St) (H : Hp) => ∃ (o29 : Option V), σ = [some (.ref p_script), some (.ref p4), some (.int (t9.1 - (100 : Int))), some (.int t13.1), some (.int ((1 : Int) + t17.1)), some (.int s), o29, none] ∧ Gr [] H18 H) (fun N23 hN24 hm => ?_) (fun s25 σ H26 hr27 hm => ?_)
    · have gl28 := Gr.refl (A := []) H18
      obtain ⟨c34, hm⟩ := wp_grd hm
      have gl35 := Gr.refl (A := []) H18
      refine rd_for (rd_r1 (rd_cons (rd_var rfl (rd_nil ⟨_, rfl, c34.1, c34.2, for_rngR (lo := 0) (n := (t13.1).toNat) (fun (s : Int) (σ : L2.St) (H : Hp) => ∃ (o29 : Option V), σ = [some (.ref p_script), some (.ref p4), some (.int (t9.1 - (100 : Int))), some (.int t13.1), some (.int ((1 : Int) + t17.1)), some (.int s), o29, none] ∧ Gr [] H18 H) (by exact wp_N hm (fun s σ' H' hr hz => hN24 s σ' H' hr hz)) ⟨_, rfl, gl35⟩ (fun x36 s30 σ H31 N33 hr32 hm => ?_)⟩))))
      unfold m_law_b1 at hm
      obtain ⟨o41, rfl, g40⟩ := hr32
      have g0 := Gr.of0' g0 g40
      have gl35 := Gr.of0' gl35 g40
      obtain ⟨c42, hm⟩ := wp_grd hm
      obtain ⟨c43, hm⟩ := wp_grd hm
      refine rd_gn (rd_asg (rd_op (rd_op (rd_var rfl (rd_var rfl (rd_rI (c42) (rd_var rfl (rd_rI c43 (rd_gn ?_)))))))))
      exact hm _ _ ⟨_, rfl, gl35⟩
    obtain ⟨o45, rfl, g44⟩ := hr27
    have g0 := Gr.of0' g0 g44
    refine rd_seq (rd_if (rd_T (rd_op (rd_call (rd_cons (rd_var rfl (rd_cons (rd_var rfl (rd_cons (rd_var rfl (rd_nil ⟨_, _, _, rfl, (hTT.gr g0), wp_imp (wp_bind hm) (fun t46 hm H47 g48 => ?_) (fun _ e => e)⟩)))))))))))
    have g0 := g0.of0' g48
    refine rd_var rfl (rd_rI0 (rd_kB ?_))
    refine iteB (fun e49 => ?_) (fun e49 => ?_)
    · have hm := ifT e49 (wp_iteB hm)
      exact rd_ret (rd_c (hm _ g0))
    have hm := ifF e49 (wp_iteB hm)
    refine rd_next (rd_nx ?_)
    refine rd_seq (rd_if (rd_T (rd_op (rd_call (rd_cons (rd_var rfl (rd_cons (rd_var rfl (rd_nil ⟨_, _, rfl, wp_imp (wp_bind hm) (fun t50 hm H51 g52 => ?_) (fun _ e => e)⟩)))))))))
    have g0 := g0.of0' g52
    refine rd_c (rd_rI0 (rd_kB ?_))
    refine iteB (fun e53 => ?_) (fun e53 => ?_)
    · have hm := ifT e53 (wp_iteB hm)
      refine rd_ret (rd_call (rd_cons (rd_var rfl (rd_cons (rd_var rfl (rd_nil ⟨_, _, rfl, wp_imp (wp_bind hm) (fun t54 hm H55 g56 => ?_) (fun _ e => e)⟩))))))
      have g0 := g0.of0' g56
      exact hm _ g0
    have hm := ifF e53 (wp_iteB hm)
    refine rd_next (rd_nx ?_)
    refine rd_seq (rd_asg (rd_call (rd_cons (rd_var rfl (rd_cons (rd_var rfl (rd_nil ⟨_, _, rfl, wp_imp (wp_bind hm) (fun t57 hm H58 g59 => ?_) (fun _ e => False.elim e)⟩)))))))
    have g0 := g0.of0' g59
    refine rd_gn ?_
    refine rd_nx ?_
    refine rd_ret ((ev_andV (fun Q hm => by
        have gb60 := Gr.refl (A := []) H58
        exact chain_I (fun _ q => rd_c (q)) (fun _ q => rd_var rfl (q)) (fun _ q => rd_var rfl (q)) (hm _ _ gb60 rfl)) (fun H61 g62 Q hm => by
        have g0 := g0.of0' g62
        have gb63 := Gr.refl (A := []) H61
        obtain ⟨c64, hm⟩ := wp_grd hm
        obtain ⟨c65, hm⟩ := wp_grd hm
        exact rd_op (rd_op (rd_op (rd_op (rd_var rfl (rd_var rfl (rd_rI (c64) (rd_c (rd_rI0 (rd_var rfl (rd_rI c65 (rd_c (rd_rI0 (hm _ _ gb63 rfl))))))))))))))) _ (wp_imp (wp_bind hm) (fun t66 hm v69 H67 g68 h70 => ?_) (fun _ e => e)))
    obtain rfl := h70
    have g0 := g0.of0' g68
    exact hm _ g0

theorem all_mk {l : PySem.W.OpenLaw} {w : World} {K : PySem.W.Frag} {h : Heap} {mg : Str → Option Value} {fa f1 f2 f3 f4 f5 f6 f7 f8 f9 : Addr} (X : K.In h) (G : h.Ns mainGlobals mg) (hfa : mg "law" = some (.ref fa))
    {od1 an1 od2 an2 od3 an3 od4 an4 od5 an5 od6 an6 od7 an7 od8 an8 od9 an9 : Option Addr} {sl1 sl2 sl3 sl4 sl5 sl6 sl7 sl8 sl9 : Array (Option Value)} {oc1 kV1 dc1 pm1 ct1 cd1 oc2 kV2 dc2 pm2 ct2 cd2 oc3 kV3 dc3 pm3 ct3 cd3 oc4 kV4 dc4 pm4 ct4 oc5 kV5 dc5 pm5 ct5 cd5 oc6 kV6 dc6 pm6 ct6 cd6 oc7 kV7 dc7 pm7 ct7 cd7 oc8 kV8 dc8 pm8 ct8 cd8 oc9 kV9 dc9 pm9 ct9 cd9 : Value}
    {cc4 PT4 : Addr} {tc4 : Value} {td4 : Option Addr} {tv4 : Array Value} {ts4 : Array (Option Value)}
    {c_fault c_zd c_mal c_refu c_nt : Addr}
    (a1 : PySem.W.nsIn K mainGlobals "_law_state" = some (some (.ref f1))) (l1 : K.lookup f1 = some ⟨oc1, od1, .func (PySem.W.fnOf "_law_state" "_law_state" (defArgs s__law_state) (defBody s__law_state) (defScope s__law_state) .none kV1 dc1 pm1 an1 cd1 ct1), sl1⟩) (c1 : PySem.W.codeIn K cd1 "_law_state" = true) (k1 : PySem.W.keepIn K (.ref f1) = true)
    (a2 : PySem.W.nsIn K mainGlobals "_law_take" = some (some (.ref f2))) (l2 : K.lookup f2 = some ⟨oc2, od2, .func (PySem.W.fnOf "_law_take" "_law_take" (defArgs s__law_take) (defBody s__law_take) (defScope s__law_take) .none kV2 dc2 pm2 an2 cd2 ct2), sl2⟩) (c2 : PySem.W.codeIn K cd2 "_law_take" = true) (k2 : PySem.W.keepIn K (.ref f2) = true)
    (a3 : PySem.W.nsIn K mainGlobals "by_squaring" = some (some (.ref f3))) (l3 : K.lookup f3 = some ⟨oc3, od3, .func (PySem.W.fnOf "by_squaring" "by_squaring" (defArgs s_by_squaring) (defBody s_by_squaring) (defScope s_by_squaring) .none kV3 dc3 pm3 an3 cd3 ct3), sl3⟩) (c3 : PySem.W.codeIn K cd3 "by_squaring" = true) (k3 : PySem.W.keepIn K (.ref f3) = true)
    (a4 : PySem.W.nsIn K mainGlobals "power_modulo" = some (some (.ref f4))) (l4 : K.lookup f4 = some ⟨oc4, od4, .func (PySem.W.fnOf "power_modulo" "power_modulo" (defArgs s_power_modulo) (defBody s_power_modulo) (defScope s_power_modulo) .none kV4 dc4 pm4 an4 (.ref cc4) ct4), sl4⟩) (c4 : PySem.W.codeIn K (.ref cc4) "power_modulo" = true) (k4 : PySem.W.keepIn K (.ref f4) = true)
    (a5 : PySem.W.nsIn K mainGlobals "_law_gcd" = some (some (.ref f5))) (l5 : K.lookup f5 = some ⟨oc5, od5, .func (PySem.W.fnOf "_law_gcd" "_law_gcd" (defArgs s__law_gcd) (defBody s__law_gcd) (defScope s__law_gcd) .none kV5 dc5 pm5 an5 cd5 ct5), sl5⟩) (c5 : PySem.W.codeIn K cd5 "_law_gcd" = true) (k5 : PySem.W.keepIn K (.ref f5) = true)
    (a6 : PySem.W.nsIn K mainGlobals "cofactors" = some (some (.ref f6))) (l6 : K.lookup f6 = some ⟨oc6, od6, .func (PySem.W.fnOf "cofactors" "cofactors" (defArgs s_cofactors) (defBody s_cofactors) (defScope s_cofactors) .none kV6 dc6 pm6 an6 cd6 ct6), sl6⟩) (c6 : PySem.W.codeIn K cd6 "cofactors" = true) (k6 : PySem.W.keepIn K (.ref f6) = true)
    (a7 : PySem.W.nsIn K mainGlobals "inverse_modulo" = some (some (.ref f7))) (l7 : K.lookup f7 = some ⟨oc7, od7, .func (PySem.W.fnOf "inverse_modulo" "inverse_modulo" (defArgs s_inverse_modulo) (defBody s_inverse_modulo) (defScope s_inverse_modulo) .none kV7 dc7 pm7 an7 cd7 ct7), sl7⟩) (c7 : PySem.W.codeIn K cd7 "inverse_modulo" = true) (k7 : PySem.W.keepIn K (.ref f7) = true)
    (a8 : PySem.W.nsIn K mainGlobals "_law_no_inverse" = some (some (.ref f8))) (l8 : K.lookup f8 = some ⟨oc8, od8, .func (PySem.W.fnOf "_law_no_inverse" "_law_no_inverse" (defArgs s__law_no_inverse) (defBody s__law_no_inverse) (defScope s__law_no_inverse) .none kV8 dc8 pm8 an8 cd8 ct8), sl8⟩) (c8 : PySem.W.codeIn K cd8 "_law_no_inverse" = true) (k8 : PySem.W.keepIn K (.ref f8) = true)
    (a9 : PySem.W.nsIn K mainGlobals "law" = some (some (.ref f9))) (l9 : K.lookup f9 = some ⟨oc9, od9, .func (PySem.W.fnOf "law" "law" (defArgs s_law) (defBody s_law) (defScope s_law) .none kV9 dc9 pm9 an9 cd9 ct9), sl9⟩) (c9 : PySem.W.codeIn K cd9 "law" = true) (k9 : PySem.W.keepIn K (.ref f9) = true)
    (z_abs : PySem.W.nsIn K mainGlobals "abs" = some none)
    (z_int : PySem.W.nsIn K mainGlobals "int" = some none)
    (z_isinstance : PySem.W.nsIn K mainGlobals "isinstance" = some none)
    (z_ValueError : PySem.W.nsIn K mainGlobals "ValueError" = some none)
    (z_range : PySem.W.nsIn K mainGlobals "range" = some none)
    (gn_fault : PySem.W.nsIn K mainGlobals "Fault" = some (some (.ref c_fault)))
    (gn_zd : PySem.W.nsIn K mainGlobals "ZeroDivisor" = some (some (.ref c_zd)))
    (gn_mal : PySem.W.nsIn K mainGlobals "Malformed" = some (some (.ref c_mal)))
    (gn_refu : PySem.W.nsIn K mainGlobals "Refused" = some (some (.ref c_refu)))
    (gn_nt : PySem.W.nsIn K mainGlobals "NoText" = some (some (.ref c_nt)))
    (xx_zd : PySem.W.excIn K c_zd [.type "ValueError", .type "Exception", .type "BaseException", .type "object"] "ValueError.__new__" = true)
    (xk_zd : PySem.W.keepIn K (.ref c_zd) = true)
    (xb_zd : PySem.W.subIn K (.ref c_zd) (.type "BaseException") = some true)
    (xt_zd : PySem.W.typeIn K (.ref c_zd) = some (.type "type"))
    (ed_zd : PySem.W.hasDictIn K c_zd = true)
    (ss_zd_zd : PySem.W.subIn K (.ref c_zd) (.ref c_zd) = some true)
    (eg_zd : PySem.W.findIn K (.ref c_zd) "__getattribute__" = some (some (.builtin "BaseException.__getattribute__")))
    (ek_zd : PySem.W.findIn K (.ref c_zd) "__getattr__" = some none)
    (ea_zd : PySem.W.findIn K (.ref c_zd) "__class__" = some (some (.builtin "object.__class__")))
    (en : PySem.W.specialIn K (.builtin "object.__class__") "__get__" = some (some (.builtin "getset_descriptor.__get__")))
    (et : PySem.W.takesIn K (.builtin "object.__class__") = some true)
    (em_zd : PySem.W.mroIn K c_zd (.type "object") = some true)
    (xb_fault : PySem.W.subIn K (.ref c_fault) (.type "BaseException") = some true)
    (ed_fault : PySem.W.hasDictIn K c_fault = true)
    (xt_fault : PySem.W.typeIn K (.ref c_fault) = some (.type "type"))
    (ss_zd_fault : PySem.W.subIn K (.ref c_zd) (.ref c_fault) = some true)
    (st_zd_ValueError : PySem.W.subIn K (.ref c_zd) (.type "ValueError") = some true)
    (xb_refu : PySem.W.subIn K (.ref c_refu) (.type "BaseException") = some true)
    (ed_refu : PySem.W.hasDictIn K c_refu = true)
    (xt_refu : PySem.W.typeIn K (.ref c_refu) = some (.type "type"))
    (ss_zd_refu : PySem.W.subIn K (.ref c_zd) (.ref c_refu) = some false)
    (xb_nt : PySem.W.subIn K (.ref c_nt) (.type "BaseException") = some true)
    (ed_nt : PySem.W.hasDictIn K c_nt = true)
    (xt_nt : PySem.W.typeIn K (.ref c_nt) = some (.type "type"))
    (ss_zd_nt : PySem.W.subIn K (.ref c_zd) (.ref c_nt) = some false)
    (xb_mal : PySem.W.subIn K (.ref c_mal) (.type "BaseException") = some true)
    (ed_mal : PySem.W.hasDictIn K c_mal = true)
    (xt_mal : PySem.W.typeIn K (.ref c_mal) = some (.type "type"))
    (ss_zd_mal : PySem.W.subIn K (.ref c_zd) (.ref c_mal) = some false)
    (q4 : K.lookup cc4 = some ⟨tc4, td4, .fields tv4, ts4⟩) (p4 : tv4[11]? = some (.ref PT4)) (h4 : PySem.W.codeHdIn K cc4 PT4 = true) (u4 : K.lookup PT4 = none) (v4 : h.get? PT4 = some { cls := .none, data := .fields #[] })
    (hmath : ∀ ns : List Int, ns.length ≤ 63 → m_law ns = R.ok true)
    : LamX.LawAtS l w K CX0 4 63 "script" mg fa h := by
  have e := hfa.symm.trans (PySem.W.mg_of X G a9)
  cases e
  have F1 := fun_mk (st := s__law_state) l1 c1 k1
  have b1 := F1.binds (ps := ["script"]) fun _ _ _ _ _ _ us hl => match us, hl with | [_], _ => rfl
  have F2 := fun_mk (st := s__law_take) l2 c2 k2
  have b2 := F2.binds (ps := ["state", "m"]) fun _ _ _ _ _ _ us hl => match us, hl with | [_, _], _ => rfl
  have F3 := fun_mk (st := s_by_squaring) l3 c3 k3
  have b3 := F3.binds (ps := ["one", "base", "k", "product"]) fun _ _ _ _ _ _ us hl => match us, hl with | [_, _, _, _], _ => rfl
  have F4 := fun_mk (st := s_power_modulo) l4 c4 k4
  have b4 := F4.binds (ps := ["a", "k", "m"]) fun _ _ _ _ _ _ us hl => match us, hl with | [_, _, _], _ => rfl
  have F5 := fun_mk (st := s__law_gcd) l5 c5 k5
  have b5 := F5.binds (ps := ["a", "b"]) fun _ _ _ _ _ _ us hl => match us, hl with | [_, _], _ => rfl
  have F6 := fun_mk (st := s_cofactors) l6 c6 k6
  have b6 := F6.binds (ps := ["a", "b"]) fun _ _ _ _ _ _ us hl => match us, hl with | [_, _], _ => rfl
  have F7 := fun_mk (st := s_inverse_modulo) l7 c7 k7
  have b7 := F7.binds (ps := ["a", "m"]) fun _ _ _ _ _ _ us hl => match us, hl with | [_, _], _ => rfl
  have F8 := fun_mk (st := s__law_no_inverse) l8 c8 k8
  have b8 := F8.binds (ps := ["a", "m"]) fun _ _ _ _ _ _ us hl => match us, hl with | [_, _], _ => rfl
  have F9 := fun_mk (st := s_law) l9 c9 k9
  have b9 := F9.binds (ps := ["script"]) fun _ _ _ _ _ _ us hl => match us, hl with | [_], _ => rfl
  have z_abs := PySem.W.mg_none_of X G z_abs
  have z_int := PySem.W.mg_none_of X G z_int
  have z_isinstance := PySem.W.mg_none_of X G z_isinstance
  have z_ValueError := PySem.W.mg_none_of X G z_ValueError
  have z_range := PySem.W.mg_none_of X G z_range
  have T4 := funT_mk (st := s_power_modulo) (PT := PT4) l4 c4
  refine ⟨PySem.W.fnOf "law" "law" (defArgs s_law) (defBody s_law) (defScope s_law) .none kV9 dc9 pm9 an9 cd9 ct9, [(cc4, PT4)], sp_law K [PT4], (List.forall_mem_cons.mpr ⟨v4, (fun _ z => nomatch z)⟩), (List.forall_mem_cons.mpr ⟨u4, (fun _ z => nomatch z)⟩), (List.forall_mem_cons.mpr ⟨PySem.W.codeHd_of_K X h4, (fun _ z => nomatch z)⟩), fun s v => .of_eq rfl, fun H a ns hl _ hH hS => ⟨ns, a, rfl, ⟨_, hS, Mir.of_ints⟩, (List.forall_mem_cons.mpr ⟨NdefX.TabN.nil (hH (cc4, PT4) (by simp)), (fun _ z => nomatch z)⟩), by rw [hmath ns hl]; exact fun _ _ => rfl⟩, fun base _ _ TBs => ?_⟩
  have TB4 := TBs (cc4, PT4) (by simp)
  generalize hTT : [PT4] = TT
  have hP4 : PT4 ∈ TT := by rw [← hTT]; simp
  have Xk_zd : Xk K mg "ZeroDivisor" c_zd := ⟨PySem.W.mg_of X G gn_zd, xx_zd, xk_zd, xb_zd, xt_zd⟩
  have kc_zd_zd := kc_of xb_zd ed_zd xt_zd ss_zd_zd
  have em_zd_zd := PySem.W.exm_ref xb_zd ed_zd xt_zd ss_zd_zd
  have EC_zd : L2.ExcC K c_zd := ⟨eg_zd, ek_zd, xb_zd, ed_zd, ea_zd, en, et, em_zd⟩
  have gc_fault := PySem.W.mg_of X G gn_fault
  have kc_zd_fault := kc_of xb_fault ed_fault xt_fault ss_zd_fault
  have ko_zd_Fault := ko_true kc_zd_fault
  have ko_zd_ValueError := ko_true (kt_of (T := "ValueError") (by decide +kernel) st_zd_ValueError)
  have gc_mal := PySem.W.mg_of X G gn_mal
  have gc_nt := PySem.W.mg_of X G gn_nt
  have gc_refu := PySem.W.mg_of X G gn_refu
  have kc_zd_refu := kc_of xb_refu ed_refu xt_refu ss_zd_refu
  have ko_zd_Refused := ko_false kc_zd_refu ss_zd_refu ss_zd_zd
  have kc_zd_nt := kc_of xb_nt ed_nt xt_nt ss_zd_nt
  have ko_zd_NoText := ko_false kc_zd_nt ss_zd_nt ss_zd_zd
  have kc_zd_mal := kc_of xb_mal ed_mal xt_mal ss_zd_mal
  have ko_zd_Malformed := ko_false kc_zd_mal ss_zd_mal ss_zd_zd
  have ka_zd_Malformed_NoText_Refused := (ka_cons ko_zd_Malformed (ka_cons ko_zd_NoText (ka_cons ko_zd_Refused ka_nil)))
  have gc_zd := PySem.W.mg_of X G gn_zd
  have C__law_state : Cal l.prog w K mg base CX0 1 "_law_state" ["script"] (sp__law_state K) := ⟨f1, _, ok__law_state F1 z_abs z_int, PySem.W.mg_of X G a1, k1, b1⟩
  have C__law_take : Cal l.prog w K mg base CX0 1 "_law_take" ["state", "m"] (sp__law_take K) := ⟨f2, _, ok__law_take F2 z_int, PySem.W.mg_of X G a2, k2, b2⟩
  have O_lam1 : LOk l.prog w K mg base CX0 1 lw_lam1 ["x", "y"] ["m"] (spl_lam1 K) := okl_lam1 
  have C_by_squaring : CalC l.prog w K mg base CX0 2 "by_squaring" ["one", "base", "k", "product"] lw_lam1 ["m"] (sp_by_squaring K) := ⟨f3, _, ok_by_squaring F3 O_lam1, PySem.W.mg_of X G a3, k3, b3⟩
  have C_power_modulo : Cal l.prog w K mg base CX0 3 "power_modulo" ["a", "k", "m"] (sp_power_modulo K TT) := ⟨f4, _, ok_power_modulo T4 TB4 hP4 C_by_squaring, PySem.W.mg_of X G a4, k4, b4⟩
  have C__law_gcd : Cal l.prog w K mg base CX0 1 "_law_gcd" ["a", "b"] (sp__law_gcd K) := ⟨f5, _, ok__law_gcd F5 z_abs z_int, PySem.W.mg_of X G a5, k5, b5⟩
  have C_cofactors : Cal l.prog w K mg base CX0 1 "cofactors" ["a", "b"] (sp_cofactors K) := ⟨f6, _, ok_cofactors F6 , PySem.W.mg_of X G a6, k6, b6⟩
  have C_inverse_modulo : Cal l.prog w K mg base (CX l.prog w) 2 "inverse_modulo" ["a", "m"] (sp_inverse_modulo K (⟨some c_fault, some c_zd, some c_mal, some c_refu, some c_nt⟩ : Xc)) := ⟨f7, _, ok_inverse_modulo F7 Xk_zd C_cofactors, PySem.W.mg_of X G a7, k7, b7⟩
  have C__law_no_inverse : Cal l.prog w K mg base CX0 3 "_law_no_inverse" ["a", "m"] (sp__law_no_inverse K) := ⟨f8, _, ok__law_no_inverse F8 z_isinstance z_ValueError em_zd_zd EC_zd gc_fault ko_zd_Fault ko_zd_ValueError gc_mal gc_nt gc_refu ka_zd_Malformed_NoText_Refused gc_zd C_inverse_modulo, PySem.W.mg_of X G a8, k8, b8⟩
  exact ok_law F9 z_range C__law_state C__law_take C_power_modulo C__law_gcd C__law_no_inverse C_inverse_modulo

end Pf
set_option Elab.async false
set_option linter.all false
set_option maxRecDepth 100000
namespace Pf
open PySem PySem.Spec PyProof.Rows L2 Mir
theorem state_ok (ns : List Int) : ∃ s t, m__law_state ns = .ok [s, t] := by
  obtain ⟨p, e⟩ := foldR_ok (f := m__law_state_b1) (fun s x => ⟨_, rfl⟩) (cutT ns none (some 63)) (0, 1)
  refine ⟨p.1, p.2, ?_⟩
  unfold m__law_state
  rw [e]
  rfl
theorem take_ok (s t m : Int) (h0 : 0 < m) (h1 : m < 1073741824) : ∃ v s' t', m__law_take [s, t] m = .ok (v, [s', t']) ∧ 0 ≤ v ∧ v < m := by
  by_cases hs : 0 < s
  · refine ⟨s % m, s / m, t, ?_, Int.emod_nonneg _ (by omega), Int.emod_lt_of_pos _ h0⟩
    have g : getL [s, t] 0 = .ok s := rfl
    have st : setL [s, t] 0 (s / m) = .ok [s / m, t] := rfl
    simp only [m__law_take, g, st, R.bind_ok, hs, decide_true, if_true, grd_ok h0, grd_ok (show CDiv s m from ⟨h0, h1⟩)]
  · refine ⟨(t * 48271 + 11) % 2147483647 / 7 % m, s, (t * 48271 + 11) % 2147483647, ?_, Int.emod_nonneg _ (by omega), Int.emod_lt_of_pos _ h0⟩
    have g : getL [s, t] 0 = .ok s := rfl
    have g1 : getL [s, t] 1 = .ok t := rfl
    have st : ∀ y, setL [s, t] 1 y = .ok [s, y] := fun y => rfl
    have g2 : ∀ y, getL [s, y] 1 = .ok y := fun y => rfl
    simp only [m__law_take, g, g1, g2, st, R.bind_ok, hs, decide_false, if_false, grd_ok h0, Bool.false_eq_true]
theorem gcd_ok (x y : Int) (h : y.natAbs < 100000) : m__law_gcd x y = .ok (pgcd x y) := by
  obtain ⟨s, e, ⟨i1, i2, i3⟩, c⟩ := whileR_inv (c := m__law_gcd_b1) (f := m__law_gcd_b2) (fun s : Int × Int => 0 ≤ s.1 ∧ 0 ≤ s.2 ∧ pgcd s.1 s.2 = pgcd x y) (fun s => s.2.natAbs) (fun s hs => by
    obtain ⟨h1, h2, h3⟩ := hs
    by_cases e : s.2 = 0
    · right
      unfold m__law_gcd_b1
      rw [e]
      rfl
    · left
      have p : 0 < s.2 := by omega
      refine ⟨by unfold m__law_gcd_b1; rw [decide_eq_false e]; rfl, (s.2, s.1 % s.2), by unfold m__law_gcd_b2; exact grd_ok p, ⟨h2, Int.emod_nonneg _ e, ?_⟩, ?_⟩
      · rw [← h3]
        obtain ⟨m, hm⟩ := Int.eq_ofNat_of_zero_le h1
        obtain ⟨k, hk⟩ := Int.eq_ofNat_of_zero_le h2
        show pgcd s.2 (s.1 % s.2) = pgcd s.1 s.2
        rw [hm, hk]
        unfold pgcd
        rw [← Int.natCast_emod]
        simp only [Int.natAbs_natCast]
        rw [Nat.gcd_comm m k, Nat.gcd_rec k m, Nat.gcd_comm]
      · show (s.1 % s.2).natAbs < s.2.natAbs
        have a := Int.emod_nonneg s.1 e
        have b := Int.emod_lt_of_pos s.1 p
        omega) 100000 (pabs x, pabs y) ⟨by show 0 ≤ pabs x; unfold pabs; split <;> omega, by show 0 ≤ pabs y; unfold pabs; split <;> omega, by
      show pgcd (pabs x) (pabs y) = pgcd x y
      unfold pgcd pabs
      split <;> split <;> simp [Int.natAbs_neg]⟩ (by show (pabs y).natAbs < 100000; unfold pabs; split <;> omega)
  unfold m__law_gcd
  rw [e]
  have z : s.2 = 0 := by
    unfold m__law_gcd_b1 at c
    have c' := R.ok.inj c
    by_cases q : s.2 = 0
    · exact q
    · rw [decide_eq_false q] at c'
      cases c'
  show R.ok s.1 = _
  rw [← i3, z]
  unfold pgcd
  rw [show ((0 : Int)).natAbs = 0 from rfl, Nat.gcd_zero_right]
  congr 1
  omega
theorem fmod_neg_bounds (g r : Int) (h : r < 0) : g.fmod r ≤ 0 ∧ r < g.fmod r := by
  have e : Int.fmod g r = g % r + if 0 ≤ r ∨ r ∣ g then 0 else r := Int.fmod_eq_emod
  have a := Int.emod_nonneg g (show r ≠ 0 by omega)
  have b := Int.emod_lt g (show r ≠ 0 by omega)
  by_cases d : r ∣ g
  · rw [if_pos (.inr d)] at e
    have z : g % r = 0 := Int.emod_eq_zero_of_dvd d
    omega
  · rw [if_neg (by intro q; rcases q with q | q; omega; exact d q)] at e
    have z : g % r ≠ 0 := fun z => d (Int.dvd_of_emod_eq_zero z)
    omega
theorem fdiv_small {g r : Int} (hg : g.natAbs ≤ 100) (hr : r ≠ 0) : (Int.fdiv g r).natAbs ≤ 100 := by
  have h1 := Int.mul_fdiv_add_fmod g r
  have e1 : g = r * g.fdiv r + g.fmod r := h1.symm
  rcases Int.lt_or_gt_of_ne hr with h | h
  · obtain ⟨b1, b2⟩ := fmod_neg_bounds g r h
    generalize hq : g.fdiv r = q at *
    generalize g.fmod r = f at *
    by_cases c : q.natAbs ≤ 100
    · exact c
    · exfalso
      rcases Int.le_total 0 q with z | z
      · have : r * q ≤ -1 * q := Int.mul_le_mul_of_nonneg_right (by omega) z
        omega
      · obtain ⟨k, hk⟩ : ∃ k : Int, k = -q ∧ 101 ≤ k := ⟨-q, rfl, by omega⟩
        have e2 : r * q = (-r) * k := by rw [hk.1]; rw [Int.neg_mul_neg]
        have : (-r) * k = (-r - 1) * k + k := by rw [Int.sub_mul]; omega
        have p : 0 ≤ (-r - 1) * (k - 1) := Int.mul_nonneg (by omega) (by omega)
        have p2 : (-r - 1) * (k - 1) = (-r - 1) * k - (-r - 1) := by rw [Int.mul_sub]; omega
        omega
  · have b1 : 0 ≤ g.fmod r := Int.fmod_nonneg_of_pos _ h
    have b2 : g.fmod r < r := Int.fmod_lt_of_pos _ h
    generalize hq : g.fdiv r = q at *
    generalize g.fmod r = f at *
    by_cases c : q.natAbs ≤ 100
    · exact c
    · exfalso
      rcases Int.le_total 0 q with z | z
      · have : 1 * q ≤ r * q := Int.mul_le_mul_of_nonneg_right (by omega) z
        omega
      · obtain ⟨k, hk⟩ : ∃ k : Int, k = -q ∧ 101 ≤ k := ⟨-q, rfl, by omega⟩
        have e2 : r * q = -(r * k) := by rw [hk.1, Int.mul_neg]; omega
        have : r * k = (r - 1) * k + k := by rw [Int.sub_mul]; omega
        have p : 0 ≤ (r - 1) * (k - 1) := Int.mul_nonneg (by omega) (by omega)
        have p2 : (r - 1) * (k - 1) = (r - 1) * k - (r - 1) := by rw [Int.mul_sub]; omega
        omega
theorem pgcd_fmod (g r : Int) : pgcd r (g - Int.fdiv g r * r) = pgcd g r := by
  have e : g - Int.fdiv g r * r = g + r * (-(Int.fdiv g r)) := by
    rw [Int.mul_neg, Int.mul_comm r]
    omega
  rw [e]
  show ((Int.gcd r (g + r * (-(Int.fdiv g r))) : Nat) : Int) = (Int.gcd g r : Nat)
  rw [Int.gcd_add_mul_left_right, Int.gcd_comm]
theorem cof_ok (a b : Int) (ha : a.natAbs ≤ 100) (hb : b.natAbs ≤ 100) : ∃ u v, m_cofactors a b = .ok (pgcd a b, u, v) ∧ u * a + v * b = pgcd a b ∧ CMul u a ∧ CMul v b := by
  have cm : ∀ {x y : Int}, y.natAbs ≤ 100 → CMul x y := fun {x y} h => .inr ⟨by omega, by omega⟩
  obtain ⟨s, e, ⟨i1, i2, i3, i4, i5⟩, c⟩ := whileR_inv (c := m_cofactors_b1) (f := m_cofactors_b2)
    (fun s : Int × Int × Int × Int × Int × Int => pgcd s.1 s.2.2.2.1 = pgcd a b ∧ s.2.1 * a + s.2.2.1 * b = s.1 ∧ s.2.2.2.2.1 * a + s.2.2.2.2.2 * b = s.2.2.2.1 ∧ s.1.natAbs ≤ 100 ∧ s.2.2.2.1.natAbs ≤ 100) (fun s => s.2.2.2.1.natAbs) (fun s hs => by
    obtain ⟨g, u, v, r, ru, rv⟩ := s
    obtain ⟨h1, h2, h3, h4, h5⟩ := hs
    dsimp only at h1 h2 h3 h4 h5
    by_cases z : r = 0
    · right
      unfold m_cofactors_b1
      dsimp only
      rw [z]
      rfl
    · left
      refine ⟨by unfold m_cofactors_b1; dsimp only; rw [decide_eq_false z]; rfl, (r, ru, rv, g - Int.fdiv g r * r, u - Int.fdiv g r * ru, v - Int.fdiv g r * rv), ?_, ⟨?_, ?_, ?_, ?_, ?_⟩, ?_⟩
      · have q := fdiv_small h4 z
        unfold m_cofactors_b2
        dsimp only
        rw [grd_ok (show CDivN g r from ⟨z, by omega⟩), grd_ok (show CMul (Int.fdiv g r) r from .inl ⟨by omega, by omega⟩), grd_ok (show CMul (Int.fdiv g r) ru from .inl ⟨by omega, by omega⟩), grd_ok (show CMul (Int.fdiv g r) rv from .inl ⟨by omega, by omega⟩)]
      · dsimp only
        rw [pgcd_fmod]
        exact h1
      · exact h3
      · dsimp only
        rw [Int.sub_mul, Int.sub_mul, Int.mul_assoc, Int.mul_assoc, ← h2, ← h3]
        rw [h2]
        rw [Int.mul_add]
        omega
      · exact h5
      · dsimp only
        have e1 : g - Int.fdiv g r * r = g.fmod r := by
          have := Int.mul_fdiv_add_fmod g r
          rw [Int.mul_comm] at this
          omega
        rw [e1]
        rcases Int.lt_or_gt_of_ne z with h | h
        · obtain ⟨b1, b2⟩ := fmod_neg_bounds g r h
          omega
        · have b1 : 0 ≤ g.fmod r := Int.fmod_nonneg_of_pos _ h
          have b2 : g.fmod r < r := Int.fmod_lt_of_pos _ h
          omega
      · dsimp only
        have e1 : g - Int.fdiv g r * r = g.fmod r := by
          have := Int.mul_fdiv_add_fmod g r
          rw [Int.mul_comm] at this
          omega
        rw [e1]
        rcases Int.lt_or_gt_of_ne z with h | h
        · obtain ⟨b1, b2⟩ := fmod_neg_bounds g r h
          omega
        · have b1 : 0 ≤ g.fmod r := Int.fmod_nonneg_of_pos _ h
          have b2 : g.fmod r < r := Int.fmod_lt_of_pos _ h
          omega) 100000 (a, 1, 0, b, 0, 1) ⟨rfl, by show 1 * a + 0 * b = a; omega, by show 0 * a + 1 * b = b; omega, ha, hb⟩ (by show b.natAbs < 100000; omega)
  obtain ⟨g, u, v, r, ru, rv⟩ := s
  dsimp only at i1 i2 i3 i4 i5
  have z : r = 0 := by
    unfold m_cofactors_b1 at c
    have c' := R.ok.inj c
    by_cases q : r = 0
    · exact q
    · dsimp only at c'
      rw [decide_eq_false q] at c'
      cases c'
  have gg : ((g.natAbs : Nat) : Int) = pgcd a b := by
    rw [← i1, z]
    unfold pgcd
    rw [show ((0 : Int)).natAbs = 0 from rfl, Nat.gcd_zero_right]
  unfold m_cofactors
  rw [e]
  show ∃ u' v', (if decide (g < 0) = true then R.ok (-g, -u, -v) else R.ok (g, u, v)) = _ ∧ _
  by_cases n : g < 0
  · rw [decide_eq_true n, if_pos rfl]
    have eg : -g = pgcd a b := by omega
    exact ⟨-u, -v, by rw [eg], by rw [Int.neg_mul, Int.neg_mul]; omega, cm ha, cm hb⟩
  · rw [decide_eq_false n, if_neg (by decide)]
    have eg : g = pgcd a b := by omega
    exact ⟨u, v, by rw [eg], by omega, cm ha, cm hb⟩
end Pf
set_option Elab.async false
set_option linter.all false
set_option maxRecDepth 100000
namespace Pf
open PySem PySem.Spec PyProof.Rows L2 Mir
theorem small_mul {x y : Int} (hx : x.natAbs ≤ 1000) : CMul x y := .inl ⟨by omega, by omega⟩
theorem emod_mul_l (x y m : Int) : (x % m * y) % m = (x * y) % m := by
  rw [Int.mul_emod, Int.emod_emod, ← Int.mul_emod]
theorem fold_pow (t9 : Int × List Int) (t17 : Int × List Int) (h0 : 0 ≤ t17.1) (h1 : t17.1 < 60) : ∀ (xs : List Int) (y : Int),
    foldR (m_law_b1 t9 t17) (y % (1 + t17.1)) xs = .ok (y * (t9.1 - 100) ^ xs.length % (1 + t17.1))
  | [], y => by
    show R.ok _ = R.ok _
    rw [show ([] : List Int).length = 0 from rfl, Int.pow_zero, Int.mul_one]
  | x :: xs, y => by
    have b1 := Int.emod_nonneg y (show 1 + t17.1 ≠ 0 by omega)
    have b2 := Int.emod_lt_of_pos y (show 0 < 1 + t17.1 by omega)
    show (m_law_b1 t9 t17 (y % (1 + t17.1)) x).bind _ = _
    have e : m_law_b1 t9 t17 (y % (1 + t17.1)) x = .ok (y * (t9.1 - 100) % (1 + t17.1)) := by
      unfold m_law_b1
      rw [grd_ok (small_mul (by omega)), grd_ok (show 0 < 1 + t17.1 by omega), emod_mul_l]
    rw [e, R.bind_ok, fold_pow t9 t17 h0 h1 xs]
    congr 2
    rw [show (x :: xs).length = xs.length + 1 from rfl, Int.pow_succ, Int.mul_assoc, Int.mul_comm (t9.1 - 100)]
theorem pow_two_mul (s : Int) (n : Nat) : (s * s) ^ n = s ^ (2 * n) := by
  induction n with
  | zero => rw [Int.pow_zero, Nat.mul_zero, Int.pow_zero]
  | succ n ih => rw [Int.pow_succ, ih, show 2 * (n + 1) = 2 * n + 1 + 1 by omega, Int.pow_succ, Int.pow_succ, Int.mul_assoc]
theorem pow_emod (s m : Int) (n : Nat) : (s % m) ^ n % m = s ^ n % m := by
  induction n with
  | zero => rw [Int.pow_zero, Int.pow_zero]
  | succ n ih => rw [Int.pow_succ, Int.pow_succ, Int.mul_emod, ih, Int.emod_emod, ← Int.mul_emod]

theorem m_by_squaring_F (F : Nat → Int) (prod : Int → Int → R Int) (k : Int) (h : ∀ i j : Nat, i + j ≤ k.toNat → prod (F i) (F j) = .ok (F (i + j))) (hk0 : 0 ≤ k) (hk : k < 50000) : m_by_squaring (F 0) (F 1) k prod = .ok (F k.toNat) := by
  obtain ⟨s, e, ⟨i, j, i1, i2, i3, i4⟩, c⟩ := whileR_inv (c := m_by_squaring_b1) (f := m_by_squaring_b2 prod)
    (fun s : Int × Int × Int => ∃ i j : Nat, s.1 = F i ∧ s.2.1 = F j ∧ 0 ≤ s.2.2 ∧ i + j * s.2.2.toNat = k.toNat) (fun s => s.2.2.toNat) (fun s hs => by
    obtain ⟨p, q, r⟩ := s
    obtain ⟨i, j, h1, h2, h3, h4⟩ := hs
    dsimp only at h1 h2 h3 h4
    subst h1 h2
    by_cases z : 0 < r
    · left
      refine ⟨by unfold m_by_squaring_b1; dsimp only; rw [decide_eq_true z], (if r % 2 = 1 then F (i + j) else F i, if 0 < r / 2 then F (j + j) else F j, r / 2), ?_, ?_, ?_⟩
      · unfold m_by_squaring_b2
        dsimp only
        have q1 : j * 1 ≤ j * r.toNat := Nat.mul_le_mul_left j (by omega)
        have ha := h i j (by omega)
        by_cases o2 : 0 < r / 2
        · have q2 : j * 2 ≤ j * r.toNat := Nat.mul_le_mul_left j (by omega)
          have hb := h j j (by omega)
          by_cases o : r % 2 = 1 <;> simp [o, o2, ha, hb, R.bind_ok]
        · by_cases o : r % 2 = 1 <;> simp [o, o2, ha, R.bind_ok]
      · refine ⟨if r % 2 = 1 then i + j else i, if 0 < r / 2 then j + j else j, by dsimp only; split <;> rfl, by show (if 0 < r / 2 then F (j + j) else F j) = _; split <;> rfl, by show 0 ≤ r / 2; omega, ?_⟩
        show _ + _ * (r / 2).toNat = _
        rw [← h4]
        obtain ⟨n, hn⟩ : ∃ n : Nat, r = n := ⟨r.toNat, by omega⟩
        subst hn
        have e1 : ((n : Int) / 2).toNat = n / 2 := by omega
        have e2 : (n : Int).toNat = n := by omega
        rw [e1, e2]
        have e3 : n = 2 * (n / 2) + n % 2 := by omega
        generalize n / 2 = d at *
        by_cases o2 : 0 < (n : Int) / 2
        · rw [if_pos o2]
          by_cases o : (n : Int) % 2 = 1
          · rw [if_pos o, show n = 2 * d + 1 by omega, Nat.mul_add, Nat.add_mul, Nat.mul_left_comm j 2 d]
            omega
          · rw [if_neg o, show n = 2 * d by omega, Nat.add_mul, Nat.mul_left_comm j 2 d]
            omega
        · have d0 : d = 0 := by omega
          rw [if_neg o2, d0]
          by_cases o : (n : Int) % 2 = 1
          · rw [if_pos o, show n = 1 by omega, Nat.mul_zero, Nat.mul_one]
            rfl
          · rw [if_neg o, show n = 0 by omega, Nat.mul_zero]
      · show (r / 2).toNat < r.toNat
        omega
    · right
      unfold m_by_squaring_b1
      dsimp only
      rw [decide_eq_false z]) 100000 (F 0, F 1, k) ⟨0, 1, rfl, rfl, hk0, by show 0 + 1 * k.toNat = _; omega⟩ (by show k.toNat < 100000; omega)
  obtain ⟨p, q, r⟩ := s
  dsimp only at i1 i2 i3 i4
  have z : r = 0 := by
    unfold m_by_squaring_b1 at c
    dsimp only at c
    have c' := of_decide_eq_false (R.ok.inj c)
    omega
  unfold m_by_squaring
  rw [e, R.bind_ok]
  show R.ok p = _
  subst z
  rw [i1, ← i4]
  show R.ok (F i) = R.ok (F (i + j * 0))
  rw [Nat.mul_zero, Nat.add_zero]
theorem power_ok (a k m : Int) (hk0 : 0 ≤ k) (hk : k < 50000) (h0 : 0 < m) (h1 : m < 1000) : m_power_modulo a k m = .ok (a ^ k.toNat % m) := by
  have e := m_by_squaring_F (fun i => a ^ i % m) (m_lam1 m) k (fun i j _ => by
    have b1 := Int.emod_nonneg (a ^ i) (show m ≠ 0 by omega)
    have b2 := Int.emod_lt_of_pos (a ^ i) h0
    have b3 := Int.emod_nonneg (a ^ j) (show m ≠ 0 by omega)
    have b4 := Int.emod_lt_of_pos (a ^ j) h0
    unfold m_lam1
    rw [grd_ok (small_mul (by omega)), grd_ok h0, Int.pow_add, ← Int.mul_emod]) hk0 hk
  rw [Int.pow_zero, Int.pow_succ, Int.pow_zero, Int.one_mul] at e
  unfold m_power_modulo
  rw [grd_ok h0, grd_ok h0, e, R.bind_ok]
theorem inv_er (a m : Int) (ha : a.natAbs ≤ 100) (hm : m.natAbs ≤ 100) (g : pgcd a m ≠ 1) : m_inverse_modulo a m = .er .zd := by
  obtain ⟨u, v, e, _⟩ := cof_ok a m ha hm
  unfold m_inverse_modulo
  rw [e]
  show (if (!decide (pgcd a m = 1)) = true then R.er .zd else _) = _
  rw [decide_eq_false g]
  rfl
theorem inv_ok (a m : Int) (ha : a.natAbs ≤ 100) (hm : m.natAbs ≤ 100) (h0 : 0 < m) (g : pgcd a m = 1) : ∃ b, m_inverse_modulo a m = .ok b ∧ 0 ≤ b ∧ b < m ∧ (a * b - 1) % m = 0 := by
  obtain ⟨u, v, e, h, _⟩ := cof_ok a m ha hm
  refine ⟨u % m, ?_, Int.emod_nonneg _ (by omega), Int.emod_lt_of_pos _ h0, ?_⟩
  · unfold m_inverse_modulo
    rw [e]
    show (if (!decide (pgcd a m = 1)) = true then R.er .zd else grd (0 < m) (R.ok (u % m))) = _
    rw [decide_eq_true g, grd_ok h0]
    rfl
  · rw [g] at h
    have e1 : u % m = u - m * (u / m) := by have := Int.mul_ediv_add_emod u m; omega
    rw [e1]
    have e2 : a * (u - m * (u / m)) - 1 = m * (-(v + a * (u / m))) := by
      rw [Int.mul_sub, Int.mul_neg, Int.mul_add, Int.mul_comm a u, ← Int.mul_assoc, Int.mul_comm a m, Int.mul_assoc, Int.mul_comm m v]
      omega
    rw [e2, Int.mul_emod_right]
theorem law_true (ns : List Int) (_ : ns.length ≤ 63) : m_law ns = .ok true := by
  obtain ⟨s, t, e0⟩ := state_ok ns
  obtain ⟨v1, s1, t1, e1, a1, b1⟩ := take_ok s t 201 (by decide) (by decide)
  obtain ⟨v2, s2, t2, e2, a2, b2⟩ := take_ok s1 t1 41 (by decide) (by decide)
  obtain ⟨v3, s3, t3, e3, a3, b3⟩ := take_ok s2 t2 60 (by decide) (by decide)
  have hm : 0 < 1 + v3 := by omega
  unfold m_law
  rw [e0, R.bind_ok, e1, R.bind_ok]
  show ((m__law_take [s1, t1] 41).bind _ : R Bool) = _
  rw [e2, R.bind_ok]
  show ((m__law_take [s2, t2] 60).bind _ : R Bool) = _
  rw [e3, R.bind_ok]
  dsimp only
  have f := fold_pow (v1, [s1, t1]) (v3, [s3, t3]) a3 b3 (rng 0 v2.toNat) 1
  dsimp only at f
  rw [grd_ok hm, grd_ok (show rgOk v2 by unfold rgOk; omega), f, R.bind_ok, rng_length, Int.one_mul, power_ok (v1 - 100) v2 (1 + v3) a2 (by omega) hm (by omega), R.bind_ok]
  rw [decide_eq_true (rfl : (v1 - 100) ^ v2.toNat % (1 + v3) = (v1 - 100) ^ v2.toNat % (1 + v3))]
  rw [if_neg (by decide), gcd_ok _ _ (by omega), R.bind_ok]
  by_cases g : pgcd (v1 - 100) (1 + v3) = 1
  · rw [decide_eq_true g]
    rw [if_neg (show ¬ ((!true) = true) by decide)]
    obtain ⟨b, e, h1, h2, h3⟩ := inv_ok (v1 - 100) (1 + v3) (by omega) (by omega) hm g
    rw [e, R.bind_ok, decide_eq_true h1, decide_eq_true h2]
    unfold andR
    rw [R.bind_ok, if_pos (show (true && true) = true from rfl), grd_ok (small_mul (by omega)), grd_ok hm, h3]
    rfl
  · rw [decide_eq_false g, if_pos (show (!false) = true from rfl)]
    unfold m__law_no_inverse
    rw [inv_er _ _ (by omega) (by omega) g]
    rfl
end Pf

open PySem PySem.W PyProof.Rows
set_option maxRecDepth 100000 in
set_option maxHeartbeats 0 in
theorem PySem.Challenge.cw_fieldmaps_k01_powers_modulo_holds : PySem.Challenge.rw_fieldmaps_k01_powers_modulo.Holds := by
  w_on; o_law; k_head; (case hw => w_witness2)
  k_fill
  refine LamX.walk_ofTs (l := PySem.Challenge.rw_fieldmaps_k01_powers_modulo) (n := 63) (k := 4) (x := "script") (CX := fun _ => L2.CX0) rfl (by decide) rfl ⟨rfl, by decide, by decide⟩ (fun w h Y => km_in_of Y) ?F (fun _ _ _ _ _ h => h)
  case F =>
    intro w mg fa h Y KX G hmg
    refine' Pf.all_mk KX G hmg ?a1 ?l1 ?c1 ?k1 ?a2 ?l2 ?c2 ?k2 ?a3 ?l3 ?c3 ?k3 ?a4 ?l4 ?c4 ?k4 ?a5 ?l5 ?c5 ?k5 ?a6 ?l6 ?c6 ?k6 ?a7 ?l7 ?c7 ?k7 ?a8 ?l8 ?c8 ?k8 ?a9 ?l9 ?c9 ?k9 ?z_abs ?z_int ?z_isinstance ?z_ValueError ?z_range ?gn_fault ?gn_zd ?gn_mal ?gn_refu ?gn_nt ?xx_zd ?xk_zd ?xb_zd ?xt_zd ?ed_zd ?ss_zd_zd ?eg_zd ?ek_zd ?ea_zd ?en ?et ?em_zd ?xb_fault ?ed_fault ?xt_fault ?ss_zd_fault ?st_zd_ValueError ?xb_refu ?ed_refu ?xt_refu ?ss_zd_refu ?xb_nt ?ed_nt ?xt_nt ?ss_zd_nt ?xb_mal ?ed_mal ?xt_mal ?ss_zd_mal ?q4 ?p4 ?h4 ?u4 ?v4 ?hmath
    (case a1 => k_is); (case l1 => k_is); (case c1 => k_is); (case k1 => k_is); (case a2 => k_is); (case l2 => k_is); (case c2 => k_is); (case k2 => k_is); (case a3 => k_is); (case l3 => k_is); (case c3 => k_is); (case k3 => k_is); (case a4 => k_is); (case l4 => k_is); (case c4 => k_is); (case k4 => k_is); (case a5 => k_is); (case l5 => k_is); (case c5 => k_is); (case k5 => k_is); (case a6 => k_is); (case l6 => k_is); (case c6 => k_is); (case k6 => k_is); (case a7 => k_is); (case l7 => k_is); (case c7 => k_is); (case k7 => k_is); (case a8 => k_is); (case l8 => k_is); (case c8 => k_is); (case k8 => k_is); (case a9 => k_is); (case l9 => k_is); (case c9 => k_is); (case k9 => k_is); (case z_abs => k_is); (case z_int => k_is); (case z_isinstance => k_is); (case z_ValueError => k_is); (case z_range => k_is); (case gn_fault => k_is); (case gn_zd => k_is); (case gn_mal => k_is); (case gn_refu => k_is); (case gn_nt => k_is); (case xx_zd => k_exc); (case xk_zd => k_is); (case xb_zd => k_is); (case xt_zd => k_is); (case ed_zd => k_is); (case ss_zd_zd => k_is); (case eg_zd => k_is); (case ek_zd => k_is); (case ea_zd => k_is); (case en => k_is); (case et => k_is); (case em_zd => k_is); (case xb_fault => k_is); (case ed_fault => k_is); (case xt_fault => k_is); (case ss_zd_fault => k_is); (case st_zd_ValueError => k_is); (case xb_refu => k_is); (case ed_refu => k_is); (case xt_refu => k_is); (case ss_zd_refu => k_is); (case xb_nt => k_is); (case ed_nt => k_is); (case xt_nt => k_is); (case ss_zd_nt => k_is); (case xb_mal => k_is); (case ed_mal => k_is); (case xt_mal => k_is); (case ss_zd_mal => k_is); (case q4 => k_is); (case p4 => rfl); (case h4 => kernel_rfl); (case u4 => kernel_rfl); (case v4 => exact km_tabs_of Y _ (by k_mem)); (case hmath => exact Pf.law_true)
