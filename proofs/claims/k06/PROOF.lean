import PyProof.Rows.All
import Wide.All
import OpenK.AllK
import Wide.FinOn
import HandS.Lambda
import HandS.Nested
import HandS.ForMost
import HandS.ForExc
import HandS.Style
import HandS.Gcd
import HandS.IsInst
import HandS.Wide
import HandS.SortInts
import HandS.ExcIs
import HandS.TryMany
import HandS.ExcField
import HandS.Walk
import HandS.Zip
import HandS.TupMul
import HandS.TupAny
import HandS.RevRange
import KE.GoesMore
import KE.KNestM
import KE.KLam
import HandS.EndTab
import PySem.Challenge.RW_fieldmaps_k06_rows_modulo_a_prime
set_option Elab.async false
set_option linter.all false
set_option maxRecDepth 100000
namespace Mir
open PySem PySem.Spec PyProof.Rows L2

/-! ### results of the mirrors -/
inductive Er where
  | zd | mal | refu (r : Str) | nt (i : Int)
  deriving DecidableEq
inductive R (α : Type) where
  | ok (a : α) | er (e : Er) | out
  deriving DecidableEq
@[inline] def R.bind {α β : Type} (m : R α) (f : α → R β) : R β := match m with
  | .ok a => f a
  | .er e => .er e
  | .out => .out
@[simp] theorem R.bind_ok {α β : Type} (a : α) (f : α → R β) : (R.ok a).bind f = f a := rfl
@[simp] theorem R.bind_er {α β : Type} (e : Er) (f : α → R β) : (R.er e : R α).bind f = .er e := rfl
@[simp] theorem R.bind_out {α β : Type} (f : α → R β) : (R.out : R α).bind f = .out := rfl
/-- where a test does not hold, nothing is said -/
@[irreducible] def grd (c : Prop) [Decidable c] {α : Type} (m : R α) : R α := if c then m else .out
def wp {α : Type} (m : R α) (P : α → Prop) (E : Er → Prop) : Prop := match m with
  | .ok a => P a
  | .er e => E e
  | .out => False
section
variable {α β : Type} {P : α → Prop} {Q : β → Prop} {E : Er → Prop}
theorem wp_bind {m : R α} {f : α → R β} (h : wp (m.bind f) Q E) : wp m (fun a => wp (f a) Q E) E := by
  cases m <;> exact h
theorem wp_bind' {m : R α} {f : α → R β} (h : wp m (fun a => wp (f a) Q E) E) : wp (m.bind f) Q E := by
  cases m <;> exact h
theorem wp_imp {m : R α} {P' : α → Prop} {E' : Er → Prop} (h : wp m P E) (k : ∀ a, P a → P' a) (e : ∀ x, E x → E' x) : wp m P' E' := by
  cases m with
  | ok a => exact k a h
  | er x => exact e x h
  | out => exact h
theorem wp_grd {c : Prop} [Decidable c] {m : R α} (h : wp (grd c m) P E) : c ∧ wp m P E := by
  unfold grd at h
  by_cases hc : c
  · rw [if_pos hc] at h
    exact ⟨hc, h⟩
  · rw [if_neg hc] at h
    exact h.elim
theorem wp_ite {c : Prop} [Decidable c] {m n : R α} (h : wp (if c then m else n) P E) : (c → wp m P E) ∧ (¬ c → wp n P E) :=
  ⟨fun hc => by rw [if_pos hc] at h; exact h, fun hc => by rw [if_neg hc] at h; exact h⟩
end
/-! ### loops -/
def foldR {σ α : Type} (f : σ → α → R σ) : σ → List α → R σ
  | s, [] => .ok s
  | s, x :: xs => (f s x).bind fun s' => foldR f s' xs
/-- a turn's end -/
inductive Lp (σ ρ : Type) where
  | nx (s : σ) | bk (s : σ) | rt (r : ρ)
  deriving DecidableEq
inductive Le (σ ρ : Type) where
  | dn (s : σ) | rt (r : ρ)
  deriving DecidableEq
def loopR {σ ρ α : Type} (f : σ → α → R (Lp σ ρ)) : σ → List α → R (Le σ ρ)
  | s, [] => .ok (.dn s)
  | s, x :: xs => (f s x).bind fun o => match o with
    | .nx s' => loopR f s' xs
    | .bk s' => .ok (.dn s')
    | .rt r => .ok (.rt r)
def whileR {σ : Type} (c : σ → R Bool) (f : σ → R σ) : Nat → σ → R σ
  | 0, _ => .out
  | n + 1, s => (c s).bind fun b => if b = true then (f s).bind fun s' => whileR c f n s' else .ok s
def whileL {σ ρ : Type} (c : σ → R Bool) (f : σ → R (Lp σ ρ)) : Nat → σ → R (Le σ ρ)
  | 0, _ => .out
  | n + 1, s => (c s).bind fun b => if b = true then (f s).bind fun o => match o with
    | .nx s' => whileL c f n s'
    | .bk s' => .ok (.dn s')
    | .rt r => .ok (.rt r) else .ok (.dn s)
/-- behind a loop that may be left by return -/
def Le.thn {σ ρ τ : Type} (o : Le σ ρ) (k : σ → R τ) (ret : ρ → R τ) : R τ := match o with
  | .dn s => k s
  | .rt r => ret r
/-- what is wanted behind a turn -/
def lpP {σ ρ : Type} (nx bk : σ → Prop) (rt : ρ → Prop) : Lp σ ρ → Prop
  | .nx s => nx s
  | .bk s => bk s
  | .rt r => rt r
def leP {σ ρ : Type} (dn : σ → Prop) (rt : ρ → Prop) : Le σ ρ → Prop
  | .dn s => dn s
  | .rt r => rt r
/-- the ints lo, lo + 1, .. -/
def rng (lo : Int) : Nat → List Int
  | 0 => []
  | n + 1 => lo :: rng (lo + 1) n
theorem rng_length (lo : Int) (n : Nat) : (rng lo n).length = n := by
  induction n generalizing lo with
  | zero => rfl
  | succ n ih => exact congrArg Nat.succ (ih (lo + 1))
theorem rng_drop (lo : Int) (n i : Nat) (h : i < n) : (rng lo n).drop i = (lo + i) :: (rng lo n).drop (i + 1) := by
  induction n generalizing lo i with
  | zero => omega
  | succ n ih =>
    cases i with
    | zero =>
      show lo :: rng (lo + 1) n = (lo + ((0 : Nat) : Int)) :: rng (lo + 1) n
      rw [show lo + ((0 : Nat) : Int) = lo by omega]
    | succ i =>
      have := ih (lo + 1) i (by omega)
      show (rng (lo + 1) n).drop i = (lo + ((i + 1 : Nat) : Int)) :: (rng (lo + 1) n).drop (i + 1)
      rw [this]
      rw [show lo + 1 + (i : Int) = lo + ((i + 1 : Nat) : Int) by omega]

/-! ### ints -/
def pabs (i : Int) : Int := if i < 0 then -i else i
/-! ### heaps -/
/-- how the lambdas of a program are called, by their places; which attributes are the last that a class gives its objects -/
class Nm where
  nm : Nat → Nat → Str
  last : Str → Bool
variable [Nm]
open Classical in
/-- the kinds of objects that change; an instance changes till it has its last attribute -/
noncomputable def kd : HO → Nat
  | .lst _ => 1
  | .dK _ => 2
  | .dT _ => 3
  | .set _ _ => 4
  | .tbl _ => 9
  | .ext φ => if (∃ c q, HO.ext φ = LamX.CodeO c q) then 0 else 6
  | .ins _ _ fs => match fs.getLast? with
    | some (f, _) => if Nm.last f then 0 else 5
    | none => 5
  | _ => 0
theorem kd_code {c : Addr} {q : Str} : kd (LamX.CodeO c q) = 0 := by
  unfold kd LamX.CodeO
  exact if_pos ⟨c, q, rfl⟩
/-- all is as it was, but what changes at A; that is still of its kind -/
structure Gr (A : List Addr) (H H' : Hp) : Prop where
  ob : ∀ b o, H b = some o → ∃ o', H' b = some o' ∧ (o' = o ∨ (b ∈ A ∧ kd o ≠ 0 ∧ kd o' = kd o) ∨ (kd o = 9 ∧ kd o' = 9))
  tb : ∀ P, NdefX.TabN H P Nm.nm → NdefX.TabN H' P Nm.nm
theorem Gr.to {A : List Addr} {H H' : Hp} {b : Addr} {o : HO} (g : Gr A H H') (h : H b = some o) (n : b ∈ A → kd o = 0) (t : kd o ≠ 9) : H' b = some o := by
  obtain ⟨o', h1, h2⟩ := g.ob b o h
  rcases h2 with rfl | ⟨m, k, _⟩ | ⟨k, _⟩
  · exact h1
  · exact absurd (n m) k
  · exact absurd k t
theorem Gr.refl {A : List Addr} (H : Hp) : Gr A H H := ⟨fun _ o h => ⟨o, h, .inl rfl⟩, fun _ h => h⟩
theorem gr_two {A A0 : List Addr} {c : Addr} {o o1 o2 : HO} (n : c ∈ A → c ∈ A0) (e1 : o1 = o ∨ (c ∈ A0 ∧ kd o ≠ 0 ∧ kd o1 = kd o) ∨ (kd o = 9 ∧ kd o1 = 9)) (e2 : o2 = o1 ∨ (c ∈ A ∧ kd o1 ≠ 0 ∧ kd o2 = kd o1) ∨ (kd o1 = 9 ∧ kd o2 = 9)) : o2 = o ∨ (c ∈ A0 ∧ kd o ≠ 0 ∧ kd o2 = kd o) ∨ (kd o = 9 ∧ kd o2 = 9) := by
  rcases e1 with rfl | ⟨m, k, q⟩ | ⟨k, q⟩
  · rcases e2 with rfl | ⟨m, k, q⟩ | z
    · exact .inl rfl
    · exact .inr (.inl ⟨n m, k, q⟩)
    · exact .inr (.inr z)
  · rcases e2 with rfl | ⟨_, _, q2⟩ | ⟨k1, k2⟩
    · exact .inr (.inl ⟨m, k, q⟩)
    · exact .inr (.inl ⟨m, k, q2.trans q⟩)
    · exact .inr (.inr ⟨q.symm.trans k1, k2⟩)
  · rcases e2 with rfl | ⟨_, _, q2⟩ | ⟨_, k2⟩
    · exact .inr (.inr ⟨k, q⟩)
    · exact .inr (.inr ⟨k, q2.trans q⟩)
    · exact .inr (.inr ⟨k, k2⟩)
theorem Gr.trans {A : List Addr} {H H1 H2 : Hp} (a : Gr A H H1) (b : Gr A H1 H2) : Gr A H H2 := ⟨fun c o h => by
  obtain ⟨o1, h1, e1⟩ := a.ob c o h
  obtain ⟨o2, h2, e2⟩ := b.ob c o1 h1
  exact ⟨o2, h2, gr_two id e1 e2⟩, fun P h => b.tb P (a.tb P h)⟩
theorem Gr.same {H H1 : Hp} (a : Same H H1) : Gr [] H H1 := ⟨fun c o h => ⟨o, a c o h, .inl rfl⟩, fun _ h => h.ext a⟩
theorem Gr.mono {A B : List Addr} {H H1 : Hp} (a : Gr A H H1) (s : ∀ x ∈ A, x ∈ B) : Gr B H H1 := ⟨fun c o h =>
  let ⟨o', h1, h2⟩ := a.ob c o h
  ⟨o', h1, h2.imp id fun z => z.imp (fun ⟨m, k⟩ => ⟨s c m, k⟩) id⟩, a.tb⟩
theorem Gr.of0 {B : List Addr} {H H1 : Hp} (a : Gr [] H H1) : Gr B H H1 := a.mono fun _ z => absurd z (by simp)
theorem Gr.of0' {B : List Addr} {H H1 H2 : Hp} (a : Gr B H H1) (b : Gr [] H1 H2) : Gr B H H2 := a.trans b.of0
/-- some changed objects at once; those that are new since H don't count -/
theorem Gr.many {A A0 : List Addr} {H0 H H' : Hp} (a : Gr A0 H0 H) (n : ∀ p ∈ A, p ∈ A0 ∨ H0 p = none) (b : Gr A H H') : Gr A0 H0 H' := ⟨fun c o h => by
  obtain ⟨o1, h1, e1⟩ := a.ob c o h
  obtain ⟨o2, h2, e2⟩ := b.ob c o1 h1
  exact ⟨o2, h2, gr_two (fun m => (n c m).elim id fun z => by
      rw [z] at h
      cases h) e1 e2⟩, fun P h => b.tb P (a.tb P h)⟩
/-- a change at an address that is new since H -/
theorem Gr.loc {A : List Addr} {p : Addr} {H H1 H2 : Hp} (a : Gr A H H1) (n : H p = none) (b : Gr [p] H1 H2) : Gr A H H2 := a.many (fun q m => .inr (by
  have e : q = p := by simpa using m
  exact e ▸ n)) b
theorem Gr.at1 {A : List Addr} {p : Addr} {H H1 H2 : Hp} (a : Gr A H H1) (m : p ∈ A) (b : Gr [p] H1 H2) : Gr A H H2 := a.trans (b.mono fun x z => by
  have e : x = p := by simpa using z
  exact e ▸ m)
theorem tabN_upd {nm : Nat → Nat → Str} {H : Hp} {p P : Addr} {o : HO} (n : ∀ u, H p = some u → (∀ ps, u ≠ .tbl ps) ∧ ∀ c q, u ≠ LamX.CodeO c q) (h : NdefX.TabN H P nm) : NdefX.TabN (upd H p o) P nm := by
  obtain ⟨ps, h1, h2, h3⟩ := h
  refine ⟨ps, ?_, h2, fun pos cv hc => ?_⟩
  · rw [upd_ne fun z => ?_]
    · exact h1
    · subst z
      exact (n _ h1).1 ps rfl
  · obtain ⟨c, e1, e2⟩ := h3 pos cv hc
    refine ⟨c, e1, ?_⟩
    rw [upd_ne fun z => ?_]
    · exact e2
    · subst z
      exact (n _ e2).2 c _ rfl
theorem Gr.new {A : List Addr} {H : Hp} {p : Addr} {o : HO} (n : H p = none) : Gr A H (upd H p o) := ⟨fun c u h => ⟨u, by
  rw [upd_ne (ne_of_none h n)]
  exact h, .inl rfl⟩, fun P h => tabN_upd (fun u z => by
    rw [n] at z
    cases z) h⟩
theorem Gr.setK {H : Hp} {p : Addr} {o o' : HO} (h : H p = some o') (k : kd o' ≠ 0) (t : kd o' ≠ 9) (e : kd o = kd o') : Gr [p] H (upd H p o) := ⟨fun c u q => by
  by_cases z : c = p
  · subst z
    rw [h] at q
    cases q
    exact ⟨o, upd_same, .inr (.inl ⟨by simp, k, e⟩)⟩
  · exact ⟨u, by rw [upd_ne z]; exact q, .inl rfl⟩, fun P hT => tabN_upd (fun u z => by
    rw [h] at z
    cases z
    refine ⟨fun ps e => ?_, fun c q e => ?_⟩
    · subst e
      exact t rfl
    · subst e
      exact k kd_code) hT⟩
theorem Gr.set {H : Hp} {p : Addr} {ys xs : List V} (h : H p = some (.lst xs)) : Gr [p] H (upd H p (.lst ys)) := Gr.setK h (by show 1 ≠ 0; decide) (by show 1 ≠ 9; decide) rfl
theorem Gr.free {A : List Addr} {H H' : Hp} (e : Gr A H H') {l : Addr} (h : H' l = Option.none) : H l = Option.none := by
  cases r : H l with
  | none => rfl
  | some o =>
    obtain ⟨o', h1, _⟩ := e.ob l o r
    rw [h] at h1
    cases h1
/-! ### what stands for a datum -/
abbrev Rp (α : Type) := Hp → α → V → Prop
/-- what never changes is as it was -/
def Im (H H' : Hp) : Prop := ∀ b o, H b = some o → kd o = 0 → H' b = some o
theorem Gr.im {A : List Addr} {H H' : Hp} (g : Gr A H H') : Im H H' := fun _ _ h k => g.to h (fun _ => k) (by rw [k]; decide)
class Imm {α : Type} (r : Rp α) : Prop where
  im : ∀ {H H' : Hp} {x : α} {v : V}, Im H H' → r H x v → r H' x v
theorem Imm.mono {α : Type} {r : Rp α} [Imm r] {A : List Addr} {H H' : Hp} {x : α} {v : V} (g : Gr A H H') (h : r H x v) : r H' x v := Imm.im g.im h
def rI : Rp Int := fun _ i v => v = .int i
def rB : Rp Bool := fun _ b v => v = .bl b
def rS : Rp Str := fun _ x v => v = .str x
def rN : Rp Unit := fun _ _ v => v = .non
instance : Imm rI := ⟨fun _ h => h⟩
instance : Imm rB := ⟨fun _ h => h⟩
instance : Imm rS := ⟨fun _ h => h⟩
instance : Imm rN := ⟨fun _ h => h⟩
def rO {α : Type} (r : Rp α) : Rp (Option α) := fun H o v => match o with
  | none => v = .non
  | some a => v ≠ .non ∧ r H a v
instance {α : Type} {r : Rp α} [Imm r] : Imm (rO r) := ⟨fun {H H' x v} g h => by
  cases x with
  | none => exact h
  | some a => exact ⟨h.1, Imm.im g h.2⟩⟩
theorem Paired.im {α : Type} {r : Rp α} [Imm r] {H H' : Hp} {xs : List α} {vs : List V} (g : Im H H') (h : Paired (r H) xs vs) : Paired (r H') xs vs := Paired.mapP h fun _ _ q => Imm.im g q
theorem Im.tup {K : PySem.W.Frag} {H H' : Hp} {a : Addr} {xs : List V} (g : Im H H') (h : SqT K H a xs) : SqT K H' a xs := by
  rcases h with (h | ⟨o, h⟩) | h
  · exact .inl (.inl (g _ _ h rfl))
  · exact .inl (.inr ⟨o, g _ _ h rfl⟩)
  · exact .inr h
theorem Paired.imm {α : Type} {r : Rp α} [Imm r] {A : List Addr} {H H' : Hp} {xs : List α} {vs : List V} (g : Gr A H H') (h : Paired (r H) xs vs) : Paired (r H') xs vs := Paired.mapP h fun _ _ q => Imm.mono g q
def Ls {α : Type} (r : Rp α) (H : Hp) (a : Addr) (xs : List α) : Prop := ∃ vs, H a = some (.lst vs) ∧ Paired (r H) xs vs
def Lq {α : Type} (K : PySem.W.Frag) (r : Rp α) (H : Hp) (a : Addr) (xs : List α) : Prop := ∃ vs, SqL K H a vs ∧ Paired (r H) xs vs
def Tq {α : Type} (K : PySem.W.Frag) (r : Rp α) (H : Hp) (a : Addr) (xs : List α) : Prop := ∃ vs, SqT K H a vs ∧ Paired (r H) xs vs
def rT {α : Type} (K : PySem.W.Frag) (r : Rp α) : Rp (List α) := fun H xs v => ∃ a, v = .ref a ∧ Tq K r H a xs
def rP {α β : Type} (K : PySem.W.Frag) (r : Rp α) (s : Rp β) : Rp (α × β) := fun H p v => ∃ a x y, v = .ref a ∧ SqT K H a [x, y] ∧ r H p.1 x ∧ s H p.2 y
def rP3 {α β γ : Type} (K : PySem.W.Frag) (r : Rp α) (s : Rp β) (t : Rp γ) : Rp (α × β × γ) := fun H p v => ∃ a x y z, v = .ref a ∧ SqT K H a [x, y, z] ∧ r H p.1 x ∧ s H p.2.1 y ∧ t H p.2.2 z
theorem Gr.tup {K : PySem.W.Frag} {A : List Addr} {H H' : Hp} {a : Addr} {xs : List V} (g : Gr A H H') (h : SqT K H a xs) : SqT K H' a xs := by
  rcases h with (h | ⟨o, h⟩) | h
  · exact .inl (.inl (g.to h (fun _ => rfl) nofun))
  · exact .inl (.inr ⟨o, g.to h (fun _ => rfl) nofun⟩)
  · exact .inr h
theorem Gr.lst {K : PySem.W.Frag} {A : List Addr} {H H' : Hp} {a : Addr} {xs : List V} (g : Gr A H H') (n : a ∉ A) (h : SqL K H a xs) : SqL K H' a xs := by
  rcases h with (h | ⟨o, h⟩) | h
  · exact .inl (.inl (g.to h (fun m => absurd m n) nofun))
  · exact .inl (.inr ⟨o, g.to h (fun _ => rfl) nofun⟩)
  · exact .inr h
section
variable {α β γ : Type} {K : PySem.W.Frag} {r : Rp α} {s : Rp β} {t : Rp γ} {A : List Addr} {H H' : Hp} {a p : Addr} {xs : List α}
theorem Tq.mono [Imm r] (g : Gr A H H') (h : Tq K r H a xs) : Tq K r H' a xs := let ⟨vs, h1, h2⟩ := h; ⟨vs, g.tup h1, Paired.imm g h2⟩
instance [Imm r] : Imm (rT K r) := ⟨fun g ⟨a, e, vs, h1, h2⟩ => ⟨a, e, vs, g.tup h1, Paired.im g h2⟩⟩
instance [Imm r] [Imm s] : Imm (rP K r s) := ⟨fun g ⟨a, x, y, e, h, h1, h2⟩ => ⟨a, x, y, e, g.tup h, Imm.im g h1, Imm.im g h2⟩⟩
instance [Imm r] [Imm s] [Imm t] : Imm (rP3 K r s t) := ⟨fun g ⟨a, x, y, z, e, h, h1, h2, h3⟩ => ⟨a, x, y, z, e, g.tup h, Imm.im g h1, Imm.im g h2, Imm.im g h3⟩⟩
theorem Ls.q (h : Ls r H a xs) : Lq K r H a xs := let ⟨vs, h1, h2⟩ := h; ⟨vs, SqL.of h1, h2⟩
theorem Ls.g0 [Imm r] (g : Gr [] H H') (h : Ls r H a xs) : Ls r H' a xs := let ⟨vs, h1, h2⟩ := h; ⟨vs, g.to h1 (fun m => absurd m (by simp)) nofun, Paired.imm g h2⟩
theorem Ls.g1 [Imm r] (g : Gr [p] H H') (n : a ≠ p) (h : Ls r H a xs) : Ls r H' a xs := let ⟨vs, h1, h2⟩ := h; ⟨vs, g.to h1 (fun m => absurd (by simpa using m) n) nofun, Paired.imm g h2⟩
theorem Ls.gA [Imm r] (g : Gr A H H') (n : a ∉ A) (h : Ls r H a xs) : Ls r H' a xs := let ⟨vs, h1, h2⟩ := h; ⟨vs, g.to h1 (fun m => absurd m n) nofun, Paired.imm g h2⟩
theorem Lq.g0 [Imm r] (g : Gr [] H H') (h : Lq K r H a xs) : Lq K r H' a xs := let ⟨vs, h1, h2⟩ := h; ⟨vs, g.lst (by simp) h1, Paired.imm g h2⟩
theorem Lq.gA [Imm r] (g : Gr A H H') (n : a ∉ A) (h : Lq K r H a xs) : Lq K r H' a xs := let ⟨vs, h1, h2⟩ := h; ⟨vs, g.lst n h1, Paired.imm g h2⟩
theorem Ls.ne (h : Ls r H a xs) (n : H p = none) : a ≠ p := let ⟨_, h1, _⟩ := h; ne_of_none h1 n
theorem Ls.some (h : Ls r H a xs) : ∃ vs, H a = some (.lst vs) := let ⟨vs, h1, _⟩ := h; ⟨vs, h1⟩
/-! ### displays, items, changes -/
variable {Q : VK} {E : Er → Prop}
/-- a new tuple, a new list -/
def aTup (xs : List V) (H : Hp) (Q : VK) : Prop := xs.length ≤ sizeLine ∧ ∀ p, H p = none → Q (.ref p) (upd H p (.tup xs))
def aLst (xs : List V) (H : Hp) (Q : VK) : Prop := xs.length ≤ sizeLine ∧ ∀ p, H p = none → Q (.ref p) (upd H p (.lst xs))
/-- a call's reading, held together -/
def ap3 (r : List V → Hp → VK → Prop) (vs : List V) (H : Hp) (Q : VK) : Prop := r vs H Q
theorem mk_P [Imm r] [Imm s] {x y : V} {a : α} {b : β} (hx : r H a x) (hy : s H b y) (q : ∀ v H', Gr [] H H' → rP K r s H' (a, b) v → Q v H') : aTup [x, y] H Q :=
  ⟨by show 2 ≤ sizeLine; decide, fun p n => q _ _ (Gr.new n) ⟨p, x, y, rfl, SqT.of upd_same, Imm.mono (Gr.new (A := []) n) hx, Imm.mono (Gr.new (A := []) n) hy⟩⟩
theorem mk_P3 [Imm r] [Imm s] [Imm t] {x y z : V} {a : α} {b : β} {c : γ} (hx : r H a x) (hy : s H b y) (hz : t H c z) (q : ∀ v H', Gr [] H H' → rP3 K r s t H' (a, b, c) v → Q v H') : aTup [x, y, z] H Q :=
  ⟨by show 3 ≤ sizeLine; decide, fun p n => q _ _ (Gr.new n) ⟨p, x, y, z, rfl, SqT.of upd_same, Imm.mono (Gr.new (A := []) n) hx, Imm.mono (Gr.new (A := []) n) hy, Imm.mono (Gr.new (A := []) n) hz⟩⟩
theorem mk_T [Imm r] {vs : List V} (h : Paired (r H) xs vs) (l : vs.length ≤ sizeLine) (q : ∀ v H', Gr [] H H' → rT K r H' xs v → Q v H') : aTup vs H Q :=
  ⟨l, fun p n => q _ _ (Gr.new n) ⟨p, rfl, vs, SqT.of upd_same, Paired.imm (Gr.new (A := []) n) h⟩⟩
theorem mk_L [Imm r] {vs : List V} (h : Paired (r H) xs vs) (l : vs.length ≤ sizeLine) (q : ∀ p H', H p = none → Gr [] H H' → Ls r H' p xs → Q (.ref p) H') : aLst vs H Q :=
  ⟨l, fun p n => q _ _ n (Gr.new n) ⟨vs, upd_same, Paired.imm (Gr.new (A := []) n) h⟩⟩
def lenOk {α : Type} (xs : List α) : Prop := xs.length ≤ sizeLine
instance {α : Type} (xs : List α) : Decidable (lenOk xs) := inferInstanceAs (Decidable (_ ≤ _))
def lenLt {α : Type} (xs : List α) : Prop := xs.length < sizeLine
instance {α : Type} (xs : List α) : Decidable (lenLt xs) := inferInstanceAs (Decidable (_ < _))
theorem Paired.app {r : α → V → Prop} : ∀ {xs ys : List α} {vs ws : List V}, Paired r xs vs → Paired r ys ws → Paired r (xs ++ ys) (vs ++ ws)
  | _, _, _, _, .nil, s => s
  | _, _, _, _, .cons r t, s => .cons r (Paired.app t s)
theorem rd_append [Imm r] {y : V} {x : α} (h : Ls r H a xs) (hy : r H x y) (l : lenLt xs) (q : ∀ H', Gr [a] H H' → Ls r H' a (xs ++ [x]) → Q .non H') : rAppend (.ref a) [y] H Q := by
  obtain ⟨vs, h1, h2⟩ := h
  refine ⟨a, vs, y, rfl, rfl, h1, by rw [← Paired.length h2]; exact l, q _ (Gr.set h1) ⟨_, upd_same, ?_⟩⟩
  exact Paired.app (Paired.imm (Gr.set h1) h2) (.cons (Imm.mono (Gr.set h1) hy) .nil)
/-- an item by its place -/
def getL {α : Type} (xs : List α) (i : Int) : R α := match atI xs i with
  | some x => .ok x
  | none => .out
theorem Paired.at {r : α → V → Prop} : ∀ {xs : List α} {vs : List V} {i : Nat} {x : α}, Paired r xs vs → xs[i]? = some x → ∃ v, vs[i]? = some v ∧ r x v
  | _, _, _, _, .nil, e => by simp at e
  | _, _, 0, _, .cons h _, e => by
    simp at e
    subst e
    exact ⟨_, rfl, h⟩
  | _, _, i + 1, _, .cons _ t, e => by
    obtain ⟨v, h1, h2⟩ := Paired.at (i := i) t (by simpa using e)
    exact ⟨v, by simpa using h1, h2⟩
theorem getL_at {r : α → V → Prop} {vs : List V} {i : Int} {Z : α → Prop} (h : Paired r xs vs) (hm : wp (getL xs i) Z E) : ∃ x v, atI vs i = some v ∧ r x v ∧ Z x := by
  unfold getL at hm
  cases e : atI xs i with
  | none =>
    rw [e] at hm
    exact hm.elim
  | some x =>
    rw [e] at hm
    unfold atI at e
    cases e2 : ixN xs.length i with
    | none =>
      rw [e2] at e
      cases e
    | some j =>
      rw [e2] at e
      obtain ⟨v, h1, h2⟩ := Paired.at h (show xs[j]? = some x from e)
      refine ⟨x, v, ?_, h2, hm⟩
      unfold atI
      rw [← Paired.length h, e2]
      exact h1
theorem ix_L {i : Int} {Z : α → Prop} (h : Lq K r H a xs) (hm : wp (getL xs i) Z E) (q : ∀ x v, r H x v → Z x → Q v H) : rIxL K (.ref a) (.int i) H Q := by
  obtain ⟨vs, h1, h2⟩ := h
  obtain ⟨x, v, e, hr, hz⟩ := getL_at h2 hm
  exact ⟨a, vs, i, v, rfl, rfl, h1, e, q x v hr hz⟩
theorem ix_T {i : Int} {Z : α → Prop} {v : V} (h : rT K r H xs v) (hm : wp (getL xs i) Z E) (q : ∀ x v, r H x v → Z x → Q v H) : rIxT K v (.int i) H Q := by
  obtain ⟨a, rfl, vs, h1, h2⟩ := h
  obtain ⟨x, v, e, hr, hz⟩ := getL_at h2 hm
  exact ⟨a, vs, i, v, rfl, rfl, h1, e, q x v hr hz⟩
/-- an item changed -/
def setL {α : Type} (xs : List α) (i : Int) (x : α) : R (List α) := match ixN xs.length i with
  | some j => .ok (xs.set j x)
  | none => .out
theorem Paired.set {r : α → V → Prop} {x : α} {v : V} (h : r x v) : ∀ {xs : List α} {vs : List V} (i : Nat), Paired r xs vs → Paired r (xs.set i x) (vs.set i v)
  | _, _, _, .nil => .nil
  | _, _, 0, .cons _ t => .cons h t
  | _, _, i + 1, .cons q t => .cons q (Paired.set h i t)
theorem rd_set [Imm r] {i : Int} {y : V} {x : α} {Z : List α → Prop} {Q : Hp → Prop} (h : Ls r H a xs) (hy : r H x y) (hm : wp (setL xs i x) Z E) (q : ∀ ys H', Gr [a] H H' → Ls r H' a ys → Z ys → Q H') : rSetL (.ref a) (.int i) y H Q := by
  obtain ⟨vs, h1, h2⟩ := h
  unfold setL at hm
  cases e : ixN xs.length i with
  | none =>
    rw [e] at hm
    exact hm.elim
  | some j =>
    rw [e] at hm
    exact ⟨a, vs, i, j, rfl, rfl, h1, by rw [← Paired.length h2]; exact e, q _ _ (Gr.set h1) ⟨_, upd_same, Paired.set (Imm.mono (Gr.set h1) hy) j (Paired.imm (Gr.set h1) h2)⟩ hm⟩
theorem cat_L [Imm r] {b : Addr} {ys : List α} (h : Ls r H a xs) (h' : Ls r H b ys) (l : lenOk (xs ++ ys)) (q : ∀ p H', H p = none → Gr [] H H' → Ls r H' p (xs ++ ys) → Q (.ref p) H') : rCat (.ref a) (.ref b) H Q := by
  obtain ⟨vs, h1, h2⟩ := h
  obtain ⟨ws, h3, h4⟩ := h'
  refine ⟨a, b, vs, ws, rfl, rfl, h1, h3, ?_, fun p n => q _ _ n (Gr.new n) ⟨_, upd_same, Paired.app (Paired.imm (Gr.new (A := []) n) h2) (Paired.imm (Gr.new (A := []) n) h4)⟩⟩
  rw [← Paired.length h2, ← Paired.length h4, ← List.length_append]
  exact l
theorem len_L (h : Lq K r H a xs) (q : Q (.int xs.length) H) : ap3 (fun vs H Q => ∃ p ys, vs = [V.ref p] ∧ (SqL K H p ys ∨ SqT K H p ys) ∧ Q (.int ys.length) H) [.ref a] H Q := by
  obtain ⟨vs, h1, h2⟩ := h
  exact ⟨a, vs, rfl, .inl h1, by rw [← Paired.length h2]; exact q⟩
theorem len_T {v : V} (h : rT K r H xs v) (q : Q (.int xs.length) H) : ap3 (fun vs H Q => ∃ p ys, vs = [V.ref p] ∧ (SqL K H p ys ∨ SqT K H p ys) ∧ Q (.int ys.length) H) [v] H Q := by
  obtain ⟨a, rfl, vs, h1, h2⟩ := h
  exact ⟨a, vs, rfl, .inr h1, by rw [← Paired.length h2]; exact q⟩
theorem tup_of_L [Imm r] (h : Lq K r H a xs) (q : ∀ v H', Gr [] H H' → rT K r H' xs v → Q v H') : ap3 (fun vs H Q => ∃ p ys, vs = [V.ref p] ∧ ((SqL K H p ys ∧ ∀ l, H l = none → Q (.ref l) (upd H l (.tup ys))) ∨ (SqT K H p ys ∧ Q (.ref p) H))) [.ref a] H Q := by
  obtain ⟨vs, h1, h2⟩ := h
  exact ⟨a, vs, rfl, .inl ⟨h1, fun l n => q _ _ (Gr.new n) ⟨l, rfl, vs, SqT.of upd_same, Paired.imm (Gr.new (A := []) n) h2⟩⟩⟩
theorem lst_of_L [Imm r] (h : Lq K r H a xs) (q : ∀ p H', H p = none → Gr [] H H' → Ls r H' p xs → Q (.ref p) H') : ap3 (fun vs H Q => ∃ p ys, vs = [V.ref p] ∧ (SqL K H p ys ∨ SqT K H p ys) ∧ ∀ l, H l = none → Q (.ref l) (upd H l (.lst ys))) [.ref a] H Q := by
  obtain ⟨vs, h1, h2⟩ := h
  exact ⟨a, vs, rfl, .inl h1, fun l n => q _ _ n (Gr.new n) ⟨vs, upd_same, Paired.imm (Gr.new (A := []) n) h2⟩⟩
theorem lst_of_T [Imm r] {v : V} (h : rT K r H xs v) (q : ∀ p H', H p = none → Gr [] H H' → Ls r H' p xs → Q (.ref p) H') : ap3 (fun vs H Q => ∃ p ys, vs = [V.ref p] ∧ (SqL K H p ys ∨ SqT K H p ys) ∧ ∀ l, H l = none → Q (.ref l) (upd H l (.lst ys))) [v] H Q := by
  obtain ⟨a, rfl, vs, h1, h2⟩ := h
  exact ⟨a, vs, rfl, .inr h1, fun l n => q _ _ n (Gr.new n) ⟨vs, upd_same, Paired.imm (Gr.new (A := []) n) h2⟩⟩
theorem Paired.take {r : α → V → Prop} : ∀ {xs : List α} {vs : List V} (n : Nat), Paired r xs vs → Paired r (xs.take n) (vs.take n)
  | _, _, 0, _ => .nil
  | _, _, _ + 1, .nil => .nil
  | _, _, n + 1, .cons h t => .cons h (Paired.take n t)
theorem Paired.drop {r : α → V → Prop} : ∀ {xs : List α} {vs : List V} (n : Nat), Paired r xs vs → Paired r (xs.drop n) (vs.drop n)
  | _, _, 0, h => h
  | _, _, _ + 1, .nil => .nil
  | _, _, n + 1, .cons _ t => Paired.drop n t
def cutT {α : Type} (xs : List α) (lo hi : Option Int) : List α := (xs.drop (HT.sIx xs.length 0 lo)).take (HT.sIx xs.length xs.length hi - HT.sIx xs.length 0 lo)
theorem cut_L [Imm r] {lo hi : Option Int} (h : Lq K r H a xs) (q : ∀ p H', H p = none → Gr [] H H' → Ls r H' p (cutT xs lo hi) → Q (.ref p) H') : rSlL K (.ref a) lo hi H Q := by
  obtain ⟨vs, h1, h2⟩ := h
  refine ⟨a, vs, rfl, h1, fun p n => q _ _ n (Gr.new n) ⟨_, upd_same, Paired.imm (Gr.new (A := []) n) ?_⟩⟩
  unfold cutT cutV
  rw [← Paired.length h2]
  exact Paired.take _ (Paired.drop _ h2)
theorem ints_of {ns : List Int} {vs : List V} (h : Paired (rI H) ns vs) : vs = ns.map V.int := by
  induction h with
  | nil => rfl
  | cons h _ ih => rw [ih, show _ = V.int _ from h] <;> rfl
theorem of_ints {ns : List Int} : Paired (rI H) ns (ns.map V.int) := by
  induction ns with
  | nil => exact .nil
  | cons n ns ih => exact .cons rfl ih
def isort (ns : List Int) : List Int := ns.mergeSort fun a b => decide (a ≤ b)
theorem sort_eq {l m : List Int} (p : l.Perm m) (a : l.Pairwise (· ≤ ·)) (b : m.Pairwise (· ≤ ·)) : l = m := p.eq_of_pairwise (fun x y _ _ h1 h2 => by omega) a b
theorem isort_perm (ns : List Int) : (isort ns).Perm ns := List.mergeSort_perm ns _
theorem isort_le (ns : List Int) : (isort ns).Pairwise (· ≤ ·) := by
  have h := List.pairwise_mergeSort (le := fun a b : Int => decide (a ≤ b)) (fun a b c h1 h2 => by simp at *; omega) (fun a b => by simp; omega) ns
  exact h.imp fun h => by simpa using h
end

/-! ### turns of loops -/
section
variable {σt ρ α : Type} {E : Er → Prop} {g : TG} {tb : TS} {D : Ends} {σ : L2.St} {H : Hp} {K : PySem.W.Frag} {a : Addr} {lo : Int} {n : Nat} {r : Rp α} {xs : List α} {s0 : σt}
theorem Paired.get2 {r : α → V → Prop} : ∀ {l₁ : List α} {l₂ : List V} {i : Nat} {v : V}, Paired r l₁ l₂ → l₂[i]? = some v → ∀ h : i < l₁.length, r l₁[i] v
  | _, _, _, _, .nil, _, h => absurd h (Nat.not_lt_zero _)
  | _, _, 0, _, .cons p _, e, _ => Option.some.inj e ▸ p
  | _, _, i + 1, _, .cons _ t, e, h => Paired.get2 (i := i) t e (Nat.lt_of_succ_lt_succ h)
theorem foldR_step {f : σt → α → R σt} {s : σt} {i : Nat} (h : i < xs.length) {P : σt → Prop} (hw : wp (foldR f s (xs.drop i)) P E) : wp (f s xs[i]) (fun s' => wp (foldR f s' (xs.drop (i + 1))) P E) E := by
  rw [List.drop_eq_getElem_cons h] at hw
  exact wp_bind (m := f s xs[i]) (f := fun s' => foldR f s' (xs.drop (i + 1))) hw
theorem foldR_end {f : σt → α → R σt} {s : σt} {i : Nat} (h : xs.length ≤ i) {P : σt → Prop} (hw : wp (foldR f s (xs.drop i)) P E) : P s := by
  rw [List.drop_of_length_le h] at hw
  exact hw
theorem loopR_step {f : σt → α → R (Lp σt ρ)} {s : σt} {i : Nat} (h : i < xs.length) {dn : σt → Prop} {rt : ρ → Prop} (hw : wp (loopR f s (xs.drop i)) (leP dn rt) E) : wp (f s xs[i]) (lpP (fun s' => wp (loopR f s' (xs.drop (i + 1))) (leP dn rt) E) dn rt) E := by
  rw [List.drop_eq_getElem_cons h] at hw
  have hw := wp_bind (m := f s xs[i]) (f := fun o => match o with
    | .nx s' => loopR f s' (xs.drop (i + 1))
    | .bk s' => .ok (.dn s')
    | .rt r => .ok (.rt r)) hw
  refine wp_imp hw (fun o ho => ?_) fun _ e => e
  cases o with
  | nx s' => exact ho
  | bk s' => exact ho
  | rt r => exact ho
theorem loopR_end {f : σt → α → R (Lp σt ρ)} {s : σt} {i : Nat} (h : xs.length ≤ i) {dn : σt → Prop} {rt : ρ → Prop} (hw : wp (loopR f s (xs.drop i)) (leP dn rt) E) : dn s := by
  rw [List.drop_of_length_le h] at hw
  exact hw
theorem rng_get (lo : Int) : ∀ (n i : Nat) (h : i < (rng lo n).length), (rng lo n)[i] = lo + i := by
  intro n
  induction n generalizing lo with
  | zero => intro i h; exact absurd h (Nat.not_lt_zero _)
  | succ n ih =>
    intro i h
    cases i with
    | zero =>
      show lo = lo + ((0 : Nat) : Int)
      omega
    | succ i =>
      have := ih (lo + 1) i (Nat.lt_of_succ_lt_succ h)
      show (rng (lo + 1) n)[i]'(Nat.lt_of_succ_lt_succ h) = lo + ((i + 1 : Nat) : Int)
      rw [this]
      omega

theorem for_rngR {f : σt → Int → R σt} (rel : σt → L2.St → Hp → Prop)
    (hm : wp (foldR f s0 (rng lo n)) (fun s => ∀ σ H, rel s σ H → D.nx σ H) E) (h0 : rel s0 σ H)
    (hs : ∀ (x : Int) (s : σt) (σ : L2.St) (H : Hp) (N : L2.St → Hp → Prop), rel s σ H → wp (f s x) (fun s' => ∀ σ' H', rel s' σ' H' → N σ' H') E →
      g (.int x) σ H fun σ2 H2 => tb { D with nx := N, ct := N, bk := D.nx } σ2 H2) :
    ∃ W : Nat → Nat → L2.St → Hp → Prop, (∃ m, W 0 m σ H) ∧ ∀ i m σ H, W i m σ H →
      ((Itr lo n).stop i H ∧ D.nx σ H) ∨ ((Itr lo n).go i H ∧ ∃ N : L2.St → Hp → Prop, (∀ σ' H', N σ' H' → ∃ m', m' < m ∧ W (i + 1) m' σ' H') ∧ ∀ x H', (Itr lo n).yld i H x H' → g x σ H' fun σ2 H2 => tb { D with nx := N, ct := N, bk := D.nx } σ2 H2) := by
  refine for_range (lo := lo) (n := n) (fun i σ H => ∃ s, rel s σ H ∧ wp (foldR f s ((rng lo n).drop i)) (fun s => ∀ σ H, rel s σ H → D.nx σ H) E) ⟨s0, h0, hm⟩ ?_ ?_
  · rintro i σ H hi ⟨s, hr, hw⟩
    have hi' : i < (rng lo n).length := by rw [rng_length]; exact hi
    have hw := foldR_step hi' hw
    rw [rng_get lo n i hi'] at hw
    exact hs (lo + i) s σ H _ hr (wp_imp hw (fun s' hs' => fun σ' H' r' => ⟨s', r', hs'⟩) fun _ e => e)
  · rintro σ H ⟨s, hr, hw⟩
    exact foldR_end (by rw [rng_length]; exact Nat.le_refl _) hw σ H hr

theorem for_rngL {f : σt → Int → R (Lp σt ρ)} {RT : ρ → Prop} (rel : σt → L2.St → Hp → Prop)
    (hm : wp (loopR f s0 (rng lo n)) (leP (fun s => ∀ σ H, rel s σ H → D.nx σ H) RT) E) (h0 : rel s0 σ H)
    (hs : ∀ (x : Int) (s : σt) (σ : L2.St) (H : Hp) (N : L2.St → Hp → Prop), rel s σ H → wp (f s x) (lpP (fun s' => ∀ σ' H', rel s' σ' H' → N σ' H') (fun s' => ∀ σ' H', rel s' σ' H' → D.nx σ' H') RT) E →
      g (.int x) σ H fun σ2 H2 => tb { D with nx := N, ct := N, bk := D.nx } σ2 H2) :
    ∃ W : Nat → Nat → L2.St → Hp → Prop, (∃ m, W 0 m σ H) ∧ ∀ i m σ H, W i m σ H →
      ((Itr lo n).stop i H ∧ D.nx σ H) ∨ ((Itr lo n).go i H ∧ ∃ N : L2.St → Hp → Prop, (∀ σ' H', N σ' H' → ∃ m', m' < m ∧ W (i + 1) m' σ' H') ∧ ∀ x H', (Itr lo n).yld i H x H' → g x σ H' fun σ2 H2 => tb { D with nx := N, ct := N, bk := D.nx } σ2 H2) := by
  refine for_range (lo := lo) (n := n) (fun i σ H => ∃ s, rel s σ H ∧ wp (loopR f s ((rng lo n).drop i)) (leP (fun s => ∀ σ H, rel s σ H → D.nx σ H) RT) E) ⟨s0, h0, hm⟩ ?_ ?_
  · rintro i σ H hi ⟨s, hr, hw⟩
    have hi' : i < (rng lo n).length := by rw [rng_length]; exact hi
    have hw := loopR_step hi' hw
    rw [rng_get lo n i hi'] at hw
    exact hs (lo + i) s σ H _ hr (wp_imp hw (fun s' hs' => (by
      cases s' with
      | nx s' => exact fun σ' H' r' => ⟨s', r', hs'⟩
      | bk s' => exact hs'
      | rt r => exact hs')) fun _ e => e)
  · rintro σ H ⟨s, hr, hw⟩
    exact loopR_end (by rw [rng_length]; exact Nat.le_refl _) hw σ H hr

theorem for_lstR {f : σt → α → R σt} (rel : σt → L2.St → Hp → Prop) {vs : List V} {H0 : Hp} (hp : Paired (r H0) xs vs)
    (hm : wp (foldR f s0 xs) (fun s => ∀ σ H, rel s σ H → D.nx σ H) E) (h0 : rel s0 σ H) (hl : ∀ s σ H, rel s σ H → SqL K H a vs)
    (hs : ∀ (x : α) (v : V) (s : σt) (σ : L2.St) (H : Hp) (N : L2.St → Hp → Prop), r H0 x v → rel s σ H → wp (f s x) (fun s' => ∀ σ' H', rel s' σ' H' → N σ' H') E →
      g v σ H fun σ2 H2 => tb { D with nx := N, ct := N, bk := D.nx } σ2 H2) :
    ∃ W : Nat → Nat → L2.St → Hp → Prop, (∃ m, W 0 m σ H) ∧ ∀ i m σ H, W i m σ H →
      ((Itl K a).stop i H ∧ D.nx σ H) ∨ ((Itl K a).go i H ∧ ∃ N : L2.St → Hp → Prop, (∀ σ' H', N σ' H' → ∃ m', m' < m ∧ W (i + 1) m' σ' H') ∧ ∀ x H', (Itl K a).yld i H x H' → g x σ H' fun σ2 H2 => tb { D with nx := N, ct := N, bk := D.nx } σ2 H2) := by
  refine for_list (K := K) (a := a) (xs := vs) (fun i σ H => ∃ s, rel s σ H ∧ wp (foldR f s (xs.drop i)) (fun s => ∀ σ H, rel s σ H → D.nx σ H) E) ⟨s0, h0, hm⟩ (fun i σ H _ ⟨s, hr, _⟩ => hl s σ H hr) ?_ ?_
  · rintro i v σ H hi ⟨s, hr, hw⟩
    have hi' : i < xs.length := by rw [Paired.length hp]; exact (List.getElem?_eq_some_iff.mp hi).1
    have hw := foldR_step hi' hw
    exact hs xs[i] v s σ H _ (Paired.get2 hp hi hi') hr (wp_imp hw (fun s' hs' => fun σ' H' r' => ⟨s', r', hs'⟩) fun _ e => e)
  · rintro σ H ⟨s, hr, hw⟩
    exact foldR_end (by rw [Paired.length hp]; exact Nat.le_refl _) hw σ H hr

theorem for_lstL {f : σt → α → R (Lp σt ρ)} {RT : ρ → Prop} (rel : σt → L2.St → Hp → Prop) {vs : List V} {H0 : Hp} (hp : Paired (r H0) xs vs)
    (hm : wp (loopR f s0 xs) (leP (fun s => ∀ σ H, rel s σ H → D.nx σ H) RT) E) (h0 : rel s0 σ H) (hl : ∀ s σ H, rel s σ H → SqL K H a vs)
    (hs : ∀ (x : α) (v : V) (s : σt) (σ : L2.St) (H : Hp) (N : L2.St → Hp → Prop), r H0 x v → rel s σ H → wp (f s x) (lpP (fun s' => ∀ σ' H', rel s' σ' H' → N σ' H') (fun s' => ∀ σ' H', rel s' σ' H' → D.nx σ' H') RT) E →
      g v σ H fun σ2 H2 => tb { D with nx := N, ct := N, bk := D.nx } σ2 H2) :
    ∃ W : Nat → Nat → L2.St → Hp → Prop, (∃ m, W 0 m σ H) ∧ ∀ i m σ H, W i m σ H →
      ((Itl K a).stop i H ∧ D.nx σ H) ∨ ((Itl K a).go i H ∧ ∃ N : L2.St → Hp → Prop, (∀ σ' H', N σ' H' → ∃ m', m' < m ∧ W (i + 1) m' σ' H') ∧ ∀ x H', (Itl K a).yld i H x H' → g x σ H' fun σ2 H2 => tb { D with nx := N, ct := N, bk := D.nx } σ2 H2) := by
  refine for_list (K := K) (a := a) (xs := vs) (fun i σ H => ∃ s, rel s σ H ∧ wp (loopR f s (xs.drop i)) (leP (fun s => ∀ σ H, rel s σ H → D.nx σ H) RT) E) ⟨s0, h0, hm⟩ (fun i σ H _ ⟨s, hr, _⟩ => hl s σ H hr) ?_ ?_
  · rintro i v σ H hi ⟨s, hr, hw⟩
    have hi' : i < xs.length := by rw [Paired.length hp]; exact (List.getElem?_eq_some_iff.mp hi).1
    have hw := loopR_step hi' hw
    exact hs xs[i] v s σ H _ (Paired.get2 hp hi hi') hr (wp_imp hw (fun s' hs' => (by
      cases s' with
      | nx s' => exact fun σ' H' r' => ⟨s', r', hs'⟩
      | bk s' => exact hs'
      | rt r => exact hs')) fun _ e => e)
  · rintro σ H ⟨s, hr, hw⟩
    exact loopR_end (by rw [Paired.length hp]; exact Nat.le_refl _) hw σ H hr

theorem for_tupR {f : σt → α → R σt} (rel : σt → L2.St → Hp → Prop) {vs : List V} {H0 : Hp} (hp : Paired (r H0) xs vs)
    (hm : wp (foldR f s0 xs) (fun s => ∀ σ H, rel s σ H → D.nx σ H) E) (h0 : rel s0 σ H) (hl : ∀ s σ H, rel s σ H → SqT K H a vs)
    (hs : ∀ (x : α) (v : V) (s : σt) (σ : L2.St) (H : Hp) (N : L2.St → Hp → Prop), r H0 x v → rel s σ H → wp (f s x) (fun s' => ∀ σ' H', rel s' σ' H' → N σ' H') E →
      g v σ H fun σ2 H2 => tb { D with nx := N, ct := N, bk := D.nx } σ2 H2) :
    ∃ W : Nat → Nat → L2.St → Hp → Prop, (∃ m, W 0 m σ H) ∧ ∀ i m σ H, W i m σ H →
      ((Itt K a).stop i H ∧ D.nx σ H) ∨ ((Itt K a).go i H ∧ ∃ N : L2.St → Hp → Prop, (∀ σ' H', N σ' H' → ∃ m', m' < m ∧ W (i + 1) m' σ' H') ∧ ∀ x H', (Itt K a).yld i H x H' → g x σ H' fun σ2 H2 => tb { D with nx := N, ct := N, bk := D.nx } σ2 H2) := by
  refine for_tup (K := K) (a := a) (xs := vs) (fun i σ H => ∃ s, rel s σ H ∧ wp (foldR f s (xs.drop i)) (fun s => ∀ σ H, rel s σ H → D.nx σ H) E) ⟨s0, h0, hm⟩ (fun i σ H _ ⟨s, hr, _⟩ => hl s σ H hr) ?_ ?_
  · rintro i v σ H hi ⟨s, hr, hw⟩
    have hi' : i < xs.length := by rw [Paired.length hp]; exact (List.getElem?_eq_some_iff.mp hi).1
    have hw := foldR_step hi' hw
    exact hs xs[i] v s σ H _ (Paired.get2 hp hi hi') hr (wp_imp hw (fun s' hs' => fun σ' H' r' => ⟨s', r', hs'⟩) fun _ e => e)
  · rintro σ H ⟨s, hr, hw⟩
    exact foldR_end (by rw [Paired.length hp]; exact Nat.le_refl _) hw σ H hr

theorem for_tupL {f : σt → α → R (Lp σt ρ)} {RT : ρ → Prop} (rel : σt → L2.St → Hp → Prop) {vs : List V} {H0 : Hp} (hp : Paired (r H0) xs vs)
    (hm : wp (loopR f s0 xs) (leP (fun s => ∀ σ H, rel s σ H → D.nx σ H) RT) E) (h0 : rel s0 σ H) (hl : ∀ s σ H, rel s σ H → SqT K H a vs)
    (hs : ∀ (x : α) (v : V) (s : σt) (σ : L2.St) (H : Hp) (N : L2.St → Hp → Prop), r H0 x v → rel s σ H → wp (f s x) (lpP (fun s' => ∀ σ' H', rel s' σ' H' → N σ' H') (fun s' => ∀ σ' H', rel s' σ' H' → D.nx σ' H') RT) E →
      g v σ H fun σ2 H2 => tb { D with nx := N, ct := N, bk := D.nx } σ2 H2) :
    ∃ W : Nat → Nat → L2.St → Hp → Prop, (∃ m, W 0 m σ H) ∧ ∀ i m σ H, W i m σ H →
      ((Itt K a).stop i H ∧ D.nx σ H) ∨ ((Itt K a).go i H ∧ ∃ N : L2.St → Hp → Prop, (∀ σ' H', N σ' H' → ∃ m', m' < m ∧ W (i + 1) m' σ' H') ∧ ∀ x H', (Itt K a).yld i H x H' → g x σ H' fun σ2 H2 => tb { D with nx := N, ct := N, bk := D.nx } σ2 H2) := by
  refine for_tup (K := K) (a := a) (xs := vs) (fun i σ H => ∃ s, rel s σ H ∧ wp (loopR f s (xs.drop i)) (leP (fun s => ∀ σ H, rel s σ H → D.nx σ H) RT) E) ⟨s0, h0, hm⟩ (fun i σ H _ ⟨s, hr, _⟩ => hl s σ H hr) ?_ ?_
  · rintro i v σ H hi ⟨s, hr, hw⟩
    have hi' : i < xs.length := by rw [Paired.length hp]; exact (List.getElem?_eq_some_iff.mp hi).1
    have hw := loopR_step hi' hw
    exact hs xs[i] v s σ H _ (Paired.get2 hp hi hi') hr (wp_imp hw (fun s' hs' => (by
      cases s' with
      | nx s' => exact fun σ' H' r' => ⟨s', r', hs'⟩
      | bk s' => exact hs'
      | rt r => exact hs')) fun _ e => e)
  · rintro σ H ⟨s, hr, hw⟩
    exact loopR_end (by rw [Paired.length hp]; exact Nat.le_refl _) hw σ H hr

/-- a while; N, W, m: handed on -/
theorem whl_R {c : TT} {cb : σt → R Bool} {f : σt → R σt} {n : Nat} (rel : σt → L2.St → Hp → Prop)
    (hm : wp (whileR cb f n s0) (fun s => ∀ σ H, rel s σ H → D.nx σ H) E) (h0 : rel s0 σ H)
    (hs : ∀ (s : σt) (σ : L2.St) (H : Hp) (N : L2.St → Hp → Prop) (W : Nat → L2.St → Hp → Prop) (m : Nat), (∀ σ' H', N σ' H' → ∃ m', m' < m ∧ W m' σ' H') → rel s σ H →
      wp (cb s) (fun b => if b = true then wp (f s) (fun s' => ∀ σ' H', rel s' σ' H' → N σ' H') E else ∀ σ H, rel s σ H → D.nx σ H) E →
      c σ H fun b H1 => if b = true then ∃ N : L2.St → Hp → Prop, (∀ σ' H', N σ' H' → ∃ m', m' < m ∧ W m' σ' H') ∧ tb { D with nx := N, ct := N, bk := D.nx } σ H1 else D.nx σ H1) : tWhile c tb D σ H := by
  refine ⟨fun m σ H => ∃ s, rel s σ H ∧ wp (whileR cb f m s) (fun s => ∀ σ H, rel s σ H → D.nx σ H) E, ⟨n, s0, h0, hm⟩, ?_⟩
  rintro m σ H ⟨s, hr, hw⟩
  cases m with
  | zero => exact hw.elim
  | succ m =>
    have hw := wp_bind (m := cb s) (f := fun b => if b = true then (f s).bind fun s' => whileR cb f m s' else .ok s) hw
    refine hs s σ H (fun σ' H' => ∃ s', rel s' σ' H' ∧ wp (whileR cb f m s') (fun s => ∀ σ H, rel s σ H → D.nx σ H) E) _ _ (fun σ' H' h => ⟨m, Nat.lt_succ_self _, h⟩) hr (wp_imp hw (fun b hb => ?_) fun _ e => e)
    cases b with
    | true => exact wp_imp (wp_bind hb) (fun s' hs' => fun σ' H' r' => ⟨s', r', hs'⟩) fun _ e => e
    | false => exact hb
theorem whl_L {c : TT} {cb : σt → R Bool} {f : σt → R (Lp σt ρ)} {n : Nat} {RT : ρ → Prop} (rel : σt → L2.St → Hp → Prop)
    (hm : wp (whileL cb f n s0) (leP (fun s => ∀ σ H, rel s σ H → D.nx σ H) RT) E) (h0 : rel s0 σ H)
    (hs : ∀ (s : σt) (σ : L2.St) (H : Hp) (N : L2.St → Hp → Prop) (W : Nat → L2.St → Hp → Prop) (m : Nat), (∀ σ' H', N σ' H' → ∃ m', m' < m ∧ W m' σ' H') → rel s σ H →
      wp (cb s) (fun b => if b = true then wp (f s) (lpP (fun s' => ∀ σ' H', rel s' σ' H' → N σ' H') (fun s' => ∀ σ' H', rel s' σ' H' → D.nx σ' H') RT) E else ∀ σ H, rel s σ H → D.nx σ H) E →
      c σ H fun b H1 => if b = true then ∃ N : L2.St → Hp → Prop, (∀ σ' H', N σ' H' → ∃ m', m' < m ∧ W m' σ' H') ∧ tb { D with nx := N, ct := N, bk := D.nx } σ H1 else D.nx σ H1) : tWhile c tb D σ H := by
  refine ⟨fun m σ H => ∃ s, rel s σ H ∧ wp (whileL cb f m s) (leP (fun s => ∀ σ H, rel s σ H → D.nx σ H) RT) E, ⟨n, s0, h0, hm⟩, ?_⟩
  rintro m σ H ⟨s, hr, hw⟩
  cases m with
  | zero => exact hw.elim
  | succ m =>
    have hw := wp_bind (m := cb s) (f := fun b => if b = true then (f s).bind fun o => match o with
      | .nx s' => whileL cb f m s'
      | .bk s' => .ok (.dn s')
      | .rt r => .ok (.rt r) else .ok (.dn s)) hw
    refine hs s σ H (fun σ' H' => ∃ s', rel s' σ' H' ∧ wp (whileL cb f m s') (leP (fun s => ∀ σ H, rel s σ H → D.nx σ H) RT) E) _ _ (fun σ' H' h => ⟨m, Nat.lt_succ_self _, h⟩) hr (wp_imp hw (fun b hb => ?_) fun _ e => e)
    cases b with
    | true =>
      refine wp_imp (wp_bind hb) (fun o ho => ?_) fun _ e => e
      cases o with
      | nx s' => exact fun σ' H' r' => ⟨s', r', ho⟩
      | bk s' => exact ho
      | rt r => exact ho
    | false => exact hb
theorem wp_thn {σ ρ τ : Type} {o : Le σ ρ} {k : σ → R τ} {ret : ρ → R τ} {P : τ → Prop} (h : wp (o.thn k ret) P E) : leP (fun s => wp (k s) P E) (fun r => wp (ret r) P E) o := by
  cases o <;> exact h
theorem leP_imp {σ ρ : Type} {o : Le σ ρ} {dn dn' : σ → Prop} {rt rt' : ρ → Prop} (h : leP dn rt o) (h1 : ∀ s, dn s → dn' s) (h2 : ∀ r, rt r → rt' r) : leP dn' rt' o := by
  cases o with
  | dn s => exact h1 s h
  | rt r => exact h2 r h
end
/-- two statements in a row: what the second one wants is shown once -/
theorem seq_join {S : Type} {t u : TS} {D : Ends} {σ : L2.St} {H : Hp} {m : R S} {Z : S → Prop} {E : Er → Prop} (hm : wp m Z E) (rel : S → L2.St → Hp → Prop)
    (h : ∀ N : L2.St → Hp → Prop, (∀ s σ' H', rel s σ' H' → Z s → N σ' H') → wp m Z E → t { D with nx := N } σ H) (hk : ∀ s σ' H', rel s σ' H' → Z s → u D σ' H') : tSeq t u D σ H := h (u D) hk hm
/-- .. behind a loop that may be left by return -/
theorem seq_joinL {σt ρ : Type} {t u : TS} {D : Ends} {σ : L2.St} {H : Hp} {m : R (Le σt ρ)} {Z : σt → Prop} {RT : ρ → Prop} {E : Er → Prop} (hm : wp m (leP Z RT) E) (rel : σt → L2.St → Hp → Prop)
    (h : ∀ N : L2.St → Hp → Prop, wp m (leP (fun s => ∀ σ' H', rel s σ' H' → N σ' H') RT) E → t { D with nx := N } σ H) (hk : ∀ s σ' H', rel s σ' H' → Z s → u D σ' H') : tSeq t u D σ H :=
  h (u D) (wp_imp hm (fun _ ho => leP_imp ho (fun s hz σ' H' hr => hk s σ' H' hr hz) fun _ h => h) fun _ e => e)
theorem iteB {c : Bool} {A B : Prop} (h1 : c = true → A) (h2 : c = false → B) : if c = true then A else B := by
  cases c with
  | true => exact iteT (h1 rfl)
  | false => exact iteF (h2 rfl)
theorem wp_iteB {α : Type} {c : Bool} {m n : R α} {P : α → Prop} {E : Er → Prop} (h : wp (if c = true then m else n) P E) : if c = true then wp m P E else wp n P E := by
  cases c <;> exact h
theorem ifT {c : Bool} {A B : Prop} (e : c = true) (h : if c = true then A else B) : A := by
  rw [if_pos e] at h
  exact h
theorem ifF {c : Bool} {A B : Prop} (e : c = false) (h : if c = true then A else B) : B := by
  rw [e, if_neg (by decide)] at h
  exact h
/-! ### parts of an expression that are shown apart: and, or, if -/
def EvT (t : TT) (σ : L2.St) (H : Hp) (m : R Bool) (E : Er → Prop) : Prop := ∀ Q : Bool → Hp → Prop, wp m (fun c => ∀ H', Gr [] H H' → Q c H') E → t σ H Q
def EvV {α : Type} (r : Rp α) (t : TE) (σ : L2.St) (H : Hp) (m : R α) (E : Er → Prop) : Prop := ∀ Q : VK, wp m (fun x => ∀ v H', Gr [] H H' → r H' x v → Q v H') E → t σ H Q
section
variable {t u : TT} {σ : L2.St} {H : Hp} {E : Er → Prop} {m n : R Bool}
def andR (m n : R Bool) : R Bool := m.bind fun b => if b = true then n else .ok false
def orR (m n : R Bool) : R Bool := m.bind fun b => if b = true then .ok true else n
theorem ev_and (h1 : EvT t σ H m E) (h2 : ∀ H', Gr [] H H' → EvT u σ H' n E) : EvT (tAnd t u) σ H (andR m n) E := fun Q hw => h1 _ (wp_imp (wp_bind hw) (fun b hb H' g => by
  cases b with
  | true => exact iteT (h2 H' g Q (wp_imp hb (fun c hc H2 g2 => hc H2 (g.trans g2)) fun _ e => e))
  | false => exact iteF (hb H' g)) fun _ e => e)
theorem ev_or (h1 : EvT t σ H m E) (h2 : ∀ H', Gr [] H H' → EvT u σ H' n E) : EvT (tOr t u) σ H (orR m n) E := fun Q hw => h1 _ (wp_imp (wp_bind hw) (fun b hb H' g => by
  cases b with
  | true => exact iteT (hb H' g)
  | false => exact iteF (h2 H' g Q (wp_imp hb (fun c hc H2 g2 => hc H2 (g.trans g2)) fun _ e => e))) fun _ e => e)
theorem ev_not (h1 : EvT t σ H m E) : EvT (tNot t) σ H (m.bind fun b => .ok (!b)) E := fun Q hw => h1 _ (wp_bind hw)
theorem ev_andV {ta tb : TE} (h1 : EvV rB ta σ H m E) (h2 : ∀ H', Gr [] H H' → EvV rB tb σ H' n E) : EvV rB (tAndV ta tb) σ H (andR m n) E := fun Q hw => h1 _ (wp_imp (wp_bind hw) (fun b hb v H' g e => ⟨b, e, by
  cases b with
  | true => exact iteT (h2 H' g Q (wp_imp hb (fun c hc v2 H2 g2 e2 => hc v2 H2 (g.trans g2) e2) fun _ e => e))
  | false => exact iteF (hb (.bl false) H' g rfl)⟩) fun _ e => e)
theorem ev_orV {ta tb : TE} (h1 : EvV rB ta σ H m E) (h2 : ∀ H', Gr [] H H' → EvV rB tb σ H' n E) : EvV rB (tOrV ta tb) σ H (orR m n) E := fun Q hw => h1 _ (wp_imp (wp_bind hw) (fun b hb v H' g e => ⟨b, e, by
  cases b with
  | true => exact iteT (hb (.bl true) H' g rfl)
  | false => exact iteF (h2 H' g Q (wp_imp hb (fun c hc v2 H2 g2 e2 => hc v2 H2 (g.trans g2) e2) fun _ e => e))⟩) fun _ e => e)
theorem ev_notV {ta : TE} (h1 : EvV rB ta σ H m E) : EvV rB (tNotV ta) σ H (m.bind fun b => .ok (!b)) E := fun Q hw => h1 _ (wp_imp (wp_bind hw) (fun b hb v H' g e => ⟨b, e, hb (.bl (!b)) H' g rfl⟩) fun _ e => e)
theorem ev_if {α : Type} {r : Rp α} {ta tb : TE} {x y : R α} (h1 : EvT t σ H m E) (h2 : ∀ H', Gr [] H H' → EvV r ta σ H' x E) (h3 : ∀ H', Gr [] H H' → EvV r tb σ H' y E) : EvV r (tIf t ta tb) σ H (m.bind fun b => if b = true then x else y) E :=
  fun Q hw => h1 _ (wp_imp (wp_bind hw) (fun b hb H' g => by
    cases b with
    | true => exact iteT (h2 H' g Q (wp_imp hb (fun c hc v2 H2 g2 e2 => hc v2 H2 (g.trans g2) e2) fun _ e => e))
    | false => exact iteF (h3 H' g Q (wp_imp hb (fun c hc v2 H2 g2 e2 => hc v2 H2 (g.trans g2) e2) fun _ e => e))) fun _ e => e)
end
/-! ### a def, for its callers -/
def Cal (P : Program) (w : World) (K : PySem.W.Frag) (mg : Str → Option Value) (base : Heap) (CX : CXT) (k : Nat) (x : Str) (ps : List Str) (sp : Sp) : Prop :=
  ∃ (f : Addr) (fd : FuncData), FnOk P w K mg base CX k f fd ps sp ∧ mg x = some (.ref f) ∧ PySem.W.keepIn K (.ref f) = true ∧ Binds K fd ps []

/-- .. where the statement is the last of its block -/
theorem nx_join {S : Type} {t : TS} {D : Ends} {σ : L2.St} {H : Hp} {m : R S} {Z : S → Prop} {E : Er → Prop} (hm : wp m Z E) (rel : S → L2.St → Hp → Prop)
    (h : ∀ N : L2.St → Hp → Prop, (∀ s σ' H', rel s σ' H' → Z s → N σ' H') → wp m Z E → t { D with nx := N } σ H) (hk : ∀ s σ' H', rel s σ' H' → Z s → D.nx σ' H') : t D σ H := h D.nx hk hm
theorem nx_joinL {σt ρ : Type} {t : TS} {D : Ends} {σ : L2.St} {H : Hp} {m : R (Le σt ρ)} {Z : σt → Prop} {RT : ρ → Prop} {E : Er → Prop} (hm : wp m (leP Z RT) E) (rel : σt → L2.St → Hp → Prop)
    (h : ∀ N : L2.St → Hp → Prop, wp m (leP (fun s => ∀ σ' H', rel s σ' H' → N σ' H') RT) E → t { D with nx := N } σ H) (hk : ∀ s σ' H', rel s σ' H' → Z s → D.nx σ' H') : t D σ H :=
  h D.nx (wp_imp hm (fun _ ho => leP_imp ho (fun s hz σ' H' hr => hk s σ' H' hr hz) fun _ h => h) fun _ e => e)
theorem wp_le {σt ρ τ : Type} {m : R (Le σt ρ)} {k : σt → R τ} {ret : ρ → R τ} {P : τ → Prop} {E : Er → Prop} (h : wp (m.bind fun o => o.thn k ret) P E) : wp m (leP (fun s => wp (k s) P E) (fun r => wp (ret r) P E)) E :=
  wp_imp (wp_bind h) (fun _ h => wp_thn h) fun _ e => e
theorem wp_N {S : Type} {m : R S} {Z : S → Prop} {E : Er → Prop} {rel : S → L2.St → Hp → Prop} {N : L2.St → Hp → Prop} (hm : wp m Z E) (hN : ∀ s σ' H', rel s σ' H' → Z s → N σ' H') : wp m (fun s => ∀ σ' H', rel s σ' H' → N σ' H') E :=
  wp_imp hm (fun s hz σ' H' hr => hN s σ' H' hr hz) fun _ e => e
theorem all0 {P : Addr → Prop} : ∀ p ∈ ([] : List Addr), P p := fun _ m => absurd m (by simp)
theorem all1 {P : Addr → Prop} {a : Addr} {l : List Addr} (h : P a) (t : ∀ p ∈ l, P p) : ∀ p ∈ a :: l, P p := fun p m => by
  rcases List.mem_cons.mp m with rfl | m
  · exact h
  · exact t p m
theorem nin0 {a : Addr} : a ∉ ([] : List Addr) := by simp
theorem nin1 {a b : Addr} {l : List Addr} (h : a ≠ b) (t : a ∉ l) : a ∉ b :: l := fun m => by
  rcases List.mem_cons.mp m with e | m
  · exact h e
  · exact t m
theorem in0 {a : Addr} {l : List Addr} : a ∈ a :: l := List.mem_cons_self
theorem in1 {a b : Addr} {l : List Addr} (h : a ∈ l) : a ∈ b :: l := List.mem_cons_of_mem _ h
/-! ### more on data -/
theorem rO_some {α : Type} {r : Rp α} {H : Hp} {x : α} {v : V} (h : v ≠ .non ∧ r H x v) : rO r H (some x) v := h
def pgcd (a b : Int) : Int := ((Nat.gcd a.natAbs b.natAbs : Nat) : Int)
instance (i j : Int) : Decidable (CMul i j) := inferInstanceAs (Decidable (_ ∨ _))
instance (i j : Int) : Decidable (CDiv i j) := inferInstanceAs (Decidable (_ ∧ _))
instance (i j : Int) : Decidable (CDivN i j) := inferInstanceAs (Decidable (_ ∧ _))
section
variable {α β γ : Type} {K : PySem.W.Frag} {r : Rp α} {s : Rp β} {t : Rp γ} {H : Hp} {a : Addr} {xs : List α} {Q : VK} {E : Er → Prop}
theorem Ls.ty (h : Ls r H a xs) : tyV K "list" (.ref a) H := let ⟨_, h1, _⟩ := h; .inl ⟨rfl, _, .inl (.inl h1)⟩
theorem sorted_L {ns : List Int} (h : Lq K rI H a ns) (q : ∀ p H', H p = none → Gr [] H H' → Ls rI H' p (isort ns) → Q (.ref p) H') : ap3 (rSortedI K) [.ref a] H Q := by
  obtain ⟨vs, h1, h2⟩ := h
  have e := ints_of h2
  subst e
  refine ⟨a, ns, rfl, h1, fun ns' p pm sr n => ?_⟩
  have e : ns' = isort ns := sort_eq (pm.trans (isort_perm ns).symm) sr (isort_le ns)
  subst e
  exact q _ _ n (Gr.new n) ⟨_, upd_same, of_ints⟩
/-- an item is added to a comprehension's list -/
theorem lc_add [Imm r] {x : α} {y : V} {Nx : Hp → Prop} (h : Ls r H a xs) (hy : r H x y) (l : lenLt xs) (q : ∀ H', Gr [a] H H' → Ls r H' a (xs ++ [x]) → Nx H') : ∃ acc, H a = some (.lst acc) ∧ acc.length < sizeLine ∧ Nx (upd H a (.lst (acc ++ [y]))) := by
  obtain ⟨vs, h1, h2⟩ := h
  exact ⟨vs, h1, by rw [← Paired.length h2]; exact l, q _ (Gr.set h1) ⟨_, upd_same, Paired.app (Paired.imm (Gr.set h1) h2) (.cons (Imm.mono (Gr.set h1) hy) .nil)⟩⟩
theorem chain_I {X Y Z : Int} {p q : Int → Int → Bool} {ta tb tc : TE} {σ : L2.St} (ha : ∀ Q : VK, Q (.int X) H → ta σ H Q) (hb : ∀ Q : VK, Q (.int Y) H → tb σ H Q) (hc : ∀ Q : VK, Q (.int Z) H → tc σ H Q)
    (h : Q (.bl (p X Y && q Y Z)) H) : tChain (rI0 fun i j => .bl (p i j)) (rI0 fun i j => .bl (q i j)) ta tb tc σ H Q := by
  refine ha _ (hb _ ⟨_, _, rfl, rfl, _, rfl, ?_⟩)
  cases e : p X Y with
  | true =>
    rw [e] at h
    exact iteT (hc _ ⟨_, _, rfl, rfl, h⟩)
  | false =>
    rw [e] at h
    exact iteF h
/-! ### == of data -/
theorem beq_dec {α : Type} [BEq α] [LawfulBEq α] [DecidableEq α] (a b : α) : (a == b) = decide (a = b) := by
  rw [Bool.eq_iff_iff, beq_iff_eq, decide_eq_true_eq]
structure DRep {α : Type} [DecidableEq α] (K : PySem.W.Frag) (r : Rp α) where
  enc : α → PyData
  dp : ∀ {H : Hp} {x : α} {v : V}, r H x v → Dp K H v (enc x)
  lay : ∀ x, (enc x).canLay0 = true
  dep : Nat
  dep_le : ∀ x, (enc x).depth ≤ dep
  eqv : ∀ x y, PyData.eqv (enc x) (enc y) = decide (x = y)
def DRep.int (K : PySem.W.Frag) : DRep K rI := ⟨.int, fun h => by rw [show _ = V.int _ from h]; exact .int _, fun _ => by rw [PyData.canLay0], 0, fun _ => by rw [PyData.depth]; exact Nat.le_refl _, fun a b => by
  simp only [PyData.eqv]
  exact beq_dec a b⟩
def DRep.bool (K : PySem.W.Frag) : DRep K rB := ⟨.bool, fun h => by rw [show _ = V.bl _ from h]; exact .bl _, fun _ => by rw [PyData.canLay0], 0, fun _ => by rw [PyData.depth]; exact Nat.le_refl _, fun a b => by
  simp only [PyData.eqv]
  exact beq_dec a b⟩
section
variable [DecidableEq α] [DecidableEq β] [DecidableEq γ]
theorem DRep.all (d : DRep K r) : ∀ {xs : List α} {vs : List V}, Paired (r H) xs vs → DpAll K H vs (xs.map d.enc)
  | _, _, .nil => .nil
  | _, _, .cons h t => .cons (d.dp h) (DRep.all d t)
theorem DRep.layA (d : DRep K r) : ∀ xs : List α, PyData.canLayAll0 (xs.map d.enc) = true
  | [] => by rw [List.map_nil, PyData.canLayAll0]
  | x :: xs => by
    rw [List.map_cons, PyData.canLayAll0, d.lay x, DRep.layA d xs]
    rfl
theorem DRep.depA (d : DRep K r) : ∀ xs : List α, PyData.depthAll (xs.map d.enc) ≤ d.dep
  | [] => by
    rw [List.map_nil, PyData.depthAll]
    exact Nat.zero_le _
  | x :: xs => by
    rw [List.map_cons, PyData.depthAll]
    exact Nat.max_le.mpr ⟨d.dep_le x, DRep.depA d xs⟩
theorem DRep.eqvA (d : DRep K r) : ∀ xs ys : List α, PyData.eqvAll (xs.map d.enc) (ys.map d.enc) = decide (xs = ys)
  | [], [] => by simp only [List.map_nil, PyData.eqvAll, decide_true]
  | [], _ :: _ => by simp [PyData.eqvAll]
  | _ :: _, [] => by simp [PyData.eqvAll]
  | x :: xs, y :: ys => by
    rw [List.map_cons, List.map_cons, PyData.eqvAll, d.eqv x y, DRep.eqvA d xs ys, ← Bool.decide_and]
    exact decide_eq_decide.mpr (by rw [List.cons.injEq])
def DRep.tup (d : DRep K r) : DRep K (rT K r) where
  enc xs := .tuple (xs.map d.enc)
  dp := fun h => by
    obtain ⟨a, rfl, vs, h1, h2⟩ := h
    exact .tup h1 (d.all h2)
  lay xs := by rw [PyData.canLay0]; exact d.layA xs
  dep := d.dep + 1
  dep_le xs := by rw [PyData.depth]; exact Nat.succ_le_succ (d.depA xs)
  eqv xs ys := by simp only [PyData.eqv]; exact d.eqvA xs ys
def rL (K : PySem.W.Frag) (r : Rp α) : Rp (List α) := fun H xs v => ∃ a, v = .ref a ∧ Lq K r H a xs
theorem rL_of (h : Lq K r H a xs) : rL K r H xs (.ref a) := ⟨a, rfl, h⟩
def DRep.lst (d : DRep K r) : DRep K (rL K r) where
  enc xs := .list (xs.map d.enc)
  dp := fun h => by
    obtain ⟨a, rfl, vs, h1, h2⟩ := h
    exact .lst h1 (d.all h2)
  lay xs := by rw [PyData.canLay0]; exact d.layA xs
  dep := d.dep + 1
  dep_le xs := by rw [PyData.depth]; exact Nat.succ_le_succ (d.depA xs)
  eqv xs ys := by simp only [PyData.eqv]; exact d.eqvA xs ys
def DRep.pair (d : DRep K r) (e : DRep K s) : DRep K (rP K r s) where
  enc p := .tuple [d.enc p.1, e.enc p.2]
  dp := fun h => by
    obtain ⟨a, x, y, rfl, h, h1, h2⟩ := h
    exact .tup h (.cons (d.dp h1) (.cons (e.dp h2) .nil))
  lay p := by simp [PyData.canLay0, PyData.canLayAll0, d.lay, e.lay]
  dep := max d.dep e.dep + 1
  dep_le p := by
    have := d.dep_le p.1
    have := e.dep_le p.2
    simp only [PyData.depth, PyData.depthAll]
    omega
  eqv p q := by
    obtain ⟨a, b⟩ := p
    obtain ⟨c, f⟩ := q
    simp only [PyData.eqv, PyData.eqvAll, d.eqv, e.eqv, Bool.and_true, ← Bool.decide_and]
    exact decide_eq_decide.mpr (by rw [Prod.mk.injEq])
theorem DRep.sh (d : DRep K r) (hl : d.dep ≤ 64) (x : α) : SeqAt.shaped (d.enc x) = true := by
  unfold SeqAt.shaped
  rw [d.lay x, Bool.true_and]
  exact decide_eq_true (Nat.le_trans (d.dep_le x) hl)
theorem eq_D (d : DRep K r) {x y : α} {v w : V} (hx : r H x v) (hy : r H y w) (q : Q (.bl (decide (x = y))) H) (hl : d.dep ≤ 64 := by exact Nat.le_of_ble_eq_true rfl) : rEqD K v w H Q :=
  ⟨_, _, d.dp hx, d.dp hy, d.sh hl x, d.sh hl y, by rw [d.eqv]; exact q⟩
theorem ne_D (d : DRep K r) {x y : α} {v w : V} (hx : r H x v) (hy : r H y w) (q : Q (.bl (!decide (x = y))) H) (hl : d.dep ≤ 64 := by exact Nat.le_of_ble_eq_true rfl) : rNeD K v w H Q :=
  ⟨_, _, d.dp hx, d.dp hy, d.sh hl x, d.sh hl y, by rw [d.eqv]; exact q⟩
end
/-! ### comprehensions over lists, tuples, ranges; A: the lists that the elements change, st: what else is carried -/
theorem lc_lst {σt : Type} {s0 : σt} {f : σt → α → R σt} {Z : σt → Prop} {g : TG} {tt : TT} {te : TE} {own : List Nat} {σ : L2.St} {H1 : Hp} {D : Addr} {Qd : Hp → Prop} (rel : σt → Hp → Prop) {vs : List V} (hp : Paired (r H1) xs vs)
    (hm : wp (foldR f s0 xs) Z E) (h0 : rel s0 (upd H1 D (.lst []))) (hl : ∀ s H, rel s H → SqL K H a vs)
    (hs : ∀ (x : α) (v : V) (s : σt) (H : Hp) (Nx : Hp → Prop), r H1 x v → rel s H → wp (f s x) (fun s' => ∀ H', rel s' H' → Nx H') E →
      g (v) (wipe σ own) H fun σ2 H2 => wipe σ2 own = wipe σ own ∧ tt σ2 H2 fun b H3 => if b = true then te σ2 H3 fun y H4 => ∃ acc, H4 D = some (.lst acc) ∧ acc.length < sizeLine ∧ Nx (upd H4 D (.lst (acc ++ [y]))) else Nx H3)
    (hd : ∀ s H, rel s H → Z s → Qd H) :
    ∃ W : Nat → Nat → Hp → Prop, (∃ m, W 0 m (upd H1 D (.lst []))) ∧ ∀ i m H, W i m H →
      ((Itl K a).stop i H ∧ Qd H) ∨ ((Itl K a).go i H ∧ ∃ Nx : Hp → Prop, (∀ H', Nx H' → ∃ m', m' < m ∧ W (i + 1) m' H') ∧ ∀ x H', (Itl K a).yld i H x H' → g x (wipe σ own) H' fun σ2 H2 => wipe σ2 own = wipe σ own ∧ tt σ2 H2 fun b H3 =>
        if b = true then te σ2 H3 fun y H4 => ∃ acc, H4 D = some (.lst acc) ∧ acc.length < sizeLine ∧ Nx (upd H4 D (.lst (acc ++ [y]))) else Nx H3) := by
  refine L2.lc_list (K := K) (a := a) (xs := vs) (fun i H => ∃ s, rel s H ∧ wp (foldR f s (xs.drop i)) Z E) ⟨s0, h0, hm⟩ (fun i H _ ⟨s, hr, _⟩ => hl s H hr) ?_ ?_
  · rintro i v H hi ⟨s, hr, hw⟩
    have hi' : i < xs.length := by rw [Paired.length hp]; exact (List.getElem?_eq_some_iff.mp hi).1
    have hw := foldR_step hi' hw
    exact hs xs[i] v s H _ (Paired.get2 hp hi hi') hr (wp_imp hw (fun s' hs' => fun H' r' => ⟨s', r', hs'⟩) fun _ e => e)
  · rintro H ⟨s, hr, hw⟩
    exact hd s H hr (foldR_end (by rw [Paired.length hp]; exact Nat.le_refl _) hw)
theorem lc_tup {σt : Type} {s0 : σt} {f : σt → α → R σt} {Z : σt → Prop} {g : TG} {tt : TT} {te : TE} {own : List Nat} {σ : L2.St} {H1 : Hp} {D : Addr} {Qd : Hp → Prop} (rel : σt → Hp → Prop) {vs : List V} (hp : Paired (r H1) xs vs)
    (hm : wp (foldR f s0 xs) Z E) (h0 : rel s0 (upd H1 D (.lst []))) (hl : ∀ s H, rel s H → SqT K H a vs)
    (hs : ∀ (x : α) (v : V) (s : σt) (H : Hp) (Nx : Hp → Prop), r H1 x v → rel s H → wp (f s x) (fun s' => ∀ H', rel s' H' → Nx H') E →
      g (v) (wipe σ own) H fun σ2 H2 => wipe σ2 own = wipe σ own ∧ tt σ2 H2 fun b H3 => if b = true then te σ2 H3 fun y H4 => ∃ acc, H4 D = some (.lst acc) ∧ acc.length < sizeLine ∧ Nx (upd H4 D (.lst (acc ++ [y]))) else Nx H3)
    (hd : ∀ s H, rel s H → Z s → Qd H) :
    ∃ W : Nat → Nat → Hp → Prop, (∃ m, W 0 m (upd H1 D (.lst []))) ∧ ∀ i m H, W i m H →
      ((Itt K a).stop i H ∧ Qd H) ∨ ((Itt K a).go i H ∧ ∃ Nx : Hp → Prop, (∀ H', Nx H' → ∃ m', m' < m ∧ W (i + 1) m' H') ∧ ∀ x H', (Itt K a).yld i H x H' → g x (wipe σ own) H' fun σ2 H2 => wipe σ2 own = wipe σ own ∧ tt σ2 H2 fun b H3 =>
        if b = true then te σ2 H3 fun y H4 => ∃ acc, H4 D = some (.lst acc) ∧ acc.length < sizeLine ∧ Nx (upd H4 D (.lst (acc ++ [y]))) else Nx H3) := by
  refine L2.lc_tup (K := K) (a := a) (xs := vs) (fun i H => ∃ s, rel s H ∧ wp (foldR f s (xs.drop i)) Z E) ⟨s0, h0, hm⟩ (fun i H _ ⟨s, hr, _⟩ => hl s H hr) ?_ ?_
  · rintro i v H hi ⟨s, hr, hw⟩
    have hi' : i < xs.length := by rw [Paired.length hp]; exact (List.getElem?_eq_some_iff.mp hi).1
    have hw := foldR_step hi' hw
    exact hs xs[i] v s H _ (Paired.get2 hp hi hi') hr (wp_imp hw (fun s' hs' => fun H' r' => ⟨s', r', hs'⟩) fun _ e => e)
  · rintro H ⟨s, hr, hw⟩
    exact hd s H hr (foldR_end (by rw [Paired.length hp]; exact Nat.le_refl _) hw)
theorem lc_rng {σt : Type} {s0 : σt} {f : σt → Int → R σt} {Z : σt → Prop} {g : TG} {tt : TT} {te : TE} {own : List Nat} {σ : L2.St} {H1 : Hp} {D : Addr} {Qd : Hp → Prop} (rel : σt → Hp → Prop) {lo : Int} {n : Nat}
    (hm : wp (foldR f s0 (rng lo n)) Z E) (h0 : rel s0 (upd H1 D (.lst [])))
    (hs : ∀ (x : Int) (s : σt) (H : Hp) (Nx : Hp → Prop), rel s H → wp (f s x) (fun s' => ∀ H', rel s' H' → Nx H') E →
      g (.int x) (wipe σ own) H fun σ2 H2 => wipe σ2 own = wipe σ own ∧ tt σ2 H2 fun b H3 => if b = true then te σ2 H3 fun y H4 => ∃ acc, H4 D = some (.lst acc) ∧ acc.length < sizeLine ∧ Nx (upd H4 D (.lst (acc ++ [y]))) else Nx H3)
    (hd : ∀ s H, rel s H → Z s → Qd H) :
    ∃ W : Nat → Nat → Hp → Prop, (∃ m, W 0 m (upd H1 D (.lst []))) ∧ ∀ i m H, W i m H →
      ((Itr lo n).stop i H ∧ Qd H) ∨ ((Itr lo n).go i H ∧ ∃ Nx : Hp → Prop, (∀ H', Nx H' → ∃ m', m' < m ∧ W (i + 1) m' H') ∧ ∀ x H', (Itr lo n).yld i H x H' → g x (wipe σ own) H' fun σ2 H2 => wipe σ2 own = wipe σ own ∧ tt σ2 H2 fun b H3 =>
        if b = true then te σ2 H3 fun y H4 => ∃ acc, H4 D = some (.lst acc) ∧ acc.length < sizeLine ∧ Nx (upd H4 D (.lst (acc ++ [y]))) else Nx H3) := by
  refine L2.lc_range (lo := lo) (n := n) (fun i H => ∃ s, rel s H ∧ wp (foldR f s ((rng lo n).drop i)) Z E) ⟨s0, h0, hm⟩ ?_ ?_
  · rintro i H hi ⟨s, hr, hw⟩
    have hi' : i < (rng lo n).length := by rw [rng_length]; exact hi
    have hw := foldR_step hi' hw
    rw [rng_get lo n i hi'] at hw
    exact hs (lo + i) s H _ hr (wp_imp hw (fun s' hs' => fun H' r' => ⟨s', r', hs'⟩) fun _ e => e)
  · rintro H ⟨s, hr, hw⟩
    exact hd s H hr (foldR_end (by rw [rng_length]; exact Nat.le_refl _) hw)
end

theorem iteB' {c : Bool} {A B : Prop} (h2 : c = false → B) (h1 : c = true → A) : if c = true then A else B := iteB h1 h2
def rgOk (j : Int) : Prop := -(2 ^ 62) ≤ j ∧ j < 2 ^ 62
instance (j : Int) : Decidable (rgOk j) := inferInstanceAs (Decidable (_ ∧ _))
def rg2Ok (i j : Int) : Prop := -(2 ^ 62) ≤ i ∧ i < 2 ^ 62 ∧ -(2 ^ 62) ≤ j ∧ j < 2 ^ 62
instance (i j : Int) : Decidable (rg2Ok i j) := inferInstanceAs (Decidable (_ ∧ _))

/-! ### the readings' parts, one by one -/
section
variable {D : Ends} {σ : L2.St} {H : Hp} {Q : VK} {K : PySem.W.Frag} {ta tb te : TE} {t u : TS} {tc : TT} {l : TA} {i j k : Nat} {v w : V}
theorem rd_var (e : σ[i]? = some (some v)) (h : Q v H) : tVar i σ H Q := ⟨v, e, h⟩
theorem rd_c (h : Q v H) : tC v σ H Q := h
theorem rd_op {r : R2} (h : ta σ H fun x H1 => tb σ H1 fun y H2 => r x y H2 Q) : tOp r ta tb σ H Q := h
theorem rd_rI0 {g : Int → Int → V} {a b : Int} (h : Q (g a b) H) : rI0 g (.int a) (.int b) H Q := ⟨a, b, rfl, rfl, h⟩
theorem rd_rI {C : Int → Int → Prop} {g : Int → Int → V} {a b : Int} (c : C a b) (h : Q (g a b) H) : L2.rI C g (.int a) (.int b) H Q := ⟨a, b, rfl, rfl, c, h⟩
theorem rd_un {r : V → Hp → VK → Prop} (h : ta σ H fun x H1 => r x H1 Q) : tUn r ta σ H Q := h
theorem rd_rU {g : Int → V} {a : Int} (h : Q (g a) H) : rU g (.int a) H Q := ⟨a, rfl, h⟩
def k2 (p : Int → Int → Bool) (x y : V) (H : Hp) (Q : VK) : Prop := ∃ i j, x = .int i ∧ y = .int j ∧ Q (.bl (p i j)) H
theorem rd_k2 {p : Int → Int → Bool} {a b : Int} (h : Q (.bl (p a b)) H) : k2 p (.int a) (.int b) H Q := ⟨a, b, rfl, rfl, h⟩
theorem rd_cmp {p : Int → Int → Bool} (h : ta σ H fun x H1 => tb σ H1 fun y H2 => k2 p x y H2 Q) : tCmp p ta tb σ H Q := h
def kB (x : V) (H : Hp) (Q : Bool → Hp → Prop) : Prop := ∃ c, x = .bl c ∧ Q c H
theorem rd_kB {c : Bool} {Q : Bool → Hp → Prop} (h : Q c H) : kB (.bl c) H Q := ⟨c, rfl, h⟩
theorem rd_B {Q : Bool → Hp → Prop} (h : ta σ H fun x H1 => kB x H1 Q) : tB ta σ H Q := h
theorem rd_T {Q : Bool → Hp → Prop} (h : ta σ H fun x H1 => kB x H1 Q) : tTest ta σ H Q := h
def kN (x : V) (H : Hp) (Q : VK) : Prop := ∃ c, x = .bl c ∧ Q (.bl (!c)) H
theorem rd_kN {c : Bool} (h : Q (.bl (!c)) H) : kN (.bl c) H Q := ⟨c, rfl, h⟩
theorem rd_notV (h : ta σ H fun x H1 => kN x H1 Q) : tNotV ta σ H Q := h
theorem rd_not {Q : Bool → Hp → Prop} (h : tc σ H fun c H1 => Q (!c) H1) : tNot tc σ H Q := h
theorem rd_rEq {x y : V} (s : scal x y = true) (h : Q (.bl (decide (x = y))) H) : rEq x y H Q := ⟨s, h⟩
theorem rd_rNe {x y : V} (s : scal x y = true) (h : Q (.bl (!decide (x = y))) H) : rNe x y H Q := ⟨s, h⟩
theorem rd_call {sp : Sp} {dvs : List V} {E : XK} (h : l σ H fun vs H1 => sp (vs ++ dvs) H1 Q E) : tCall sp dvs E l σ H Q := h
theorem rd_cb {r : List V → Hp → VK → Prop} (h : l σ H fun vs H1 => ap3 r vs H1 Q) : tCB r l σ H Q := h
theorem rd_nil {Q : List V → Hp → Prop} (h : Q [] H) : tNil σ H Q := h
theorem rd_cons {Q : List V → Hp → Prop} (h : ta σ H fun x H1 => l σ H1 fun xs H2 => Q (x :: xs) H2) : tCons ta l σ H Q := h
theorem rd_tup (h : l σ H fun xs H1 => aTup xs H1 Q) : tTup l σ H Q := h
theorem rd_lst (h : l σ H fun xs H1 => aLst xs H1 Q) : tLst l σ H Q := h
theorem rd_sl {r : V → Option Int → Option Int → Hp → VK → Prop} {tl th : TO} (h : te σ H fun x H1 => tl σ H1 fun l H2 => th σ H2 fun u H3 => r x l u H3 Q) : tSl r te tl th σ H Q := h
theorem rd_np {Q : Option Int → Hp → Prop} (h : Q none H) : tNoPart σ H Q := h
def kI (x : V) (H : Hp) (Q : Option Int → Hp → Prop) : Prop := ∃ i, x = .int i ∧ Q (some i) H
theorem rd_kI {a : Int} {Q : Option Int → Hp → Prop} (h : Q (some a) H) : kI (.int a) H Q := ⟨a, rfl, h⟩
theorem rd_part {Q : Option Int → Hp → Prop} (h : te σ H fun x H1 => kI x H1 Q) : tPart te σ H Q := h
theorem rd_bm {T : String} {r : V → List V → Hp → VK → Prop} (h : te σ H fun x H1 => tyV K T x H1 ∧ l σ H1 fun xs H2 => r x xs H2 Q) : tBM K T r te l σ H Q := h
theorem rd_bm0 {T : String} {r : V → List V → Hp → VK → Prop} (h : te σ H fun x H1 => tyV K T x H1 ∧ r x [] H1 Q) : tBM0 K T r te σ H Q := h
theorem rd_il {R : It → Hp → Prop} (h : te σ H fun x H1 => ∃ a, x = .ref a ∧ (∃ xs, SqL K H1 a xs) ∧ R (Itl K a) H1) : iList K te σ H R := h
theorem rd_it {R : It → Hp → Prop} (h : te σ H fun x H1 => ∃ a, x = .ref a ∧ (∃ xs, SqT K H1 a xs) ∧ R (Itt K a) H1) : iTup K te σ H R := h
theorem rd_r1 {R : It → Hp → Prop} (h : l σ H fun vs H1 => ∃ j : Int, vs = [.int j] ∧ -(2 ^ 62) ≤ j ∧ j < 2 ^ 62 ∧ R (Itr 0 j.toNat) H1) : iRng1 l σ H R := h
theorem rd_r2 {R : It → Hp → Prop} (h : l σ H fun vs H1 => ∃ i j : Int, vs = [.int i, .int j] ∧ (-(2 ^ 62) ≤ i ∧ i < 2 ^ 62 ∧ -(2 ^ 62) ≤ j ∧ j < 2 ^ 62) ∧ R (Itr i (j - i).toNat) H1) : iRng2 l σ H R := h
-- statements
theorem rd_seq (h : t ⟨u D, D.rt, D.bk, D.ct⟩ σ H) : tSeq t u D σ H := h
theorem rd_nx {n b c : L2.St → Hp → Prop} {r : VK} (h : n σ H) : Ends.nx ⟨n, r, b, c⟩ σ H := h
theorem rd_next (h : D.nx σ H) : tNext D σ H := h
theorem rd_asg {g : TG} (h : te σ H fun x H1 => g x σ H1 D.nx) : tAsg te g D σ H := h
theorem rd_gn {Q : L2.St → Hp → Prop} (h : Q (σ.set i (some v)) H) : gName i v σ H Q := h
theorem rd_ret (h : te σ H D.rt) : tRet te D σ H := h
theorem rd_if (h : tc σ H fun b H1 => if b = true then t D σ H1 else u D σ H1) : tIfS tc t u D σ H := h
theorem rd_drop (h : te σ H fun _ H1 => D.nx σ H1) : tDrop te D σ H := h
def kp2 (i j : Nat) (vs : List V) (σ : L2.St) (H : Hp) (Q : L2.St → Hp → Prop) : Prop := ∃ v w, vs = [v, w] ∧ Q ((σ.set i (some v)).set j (some w)) H
theorem rd_kp2 {Q : L2.St → Hp → Prop} {a b : V} (h : Q ((σ.set i (some a)).set j (some b)) H) : kp2 i j [a, b] σ H Q := ⟨a, b, rfl, h⟩
theorem rd_par (h : l σ H fun vs H1 => kp2 i j vs σ H1 D.nx) : tPar i j l D σ H := h
def kp3 (i j k : Nat) (vs : List V) (σ : L2.St) (H : Hp) (Q : L2.St → Hp → Prop) : Prop := ∃ u v w, vs = [u, v, w] ∧ Q (((σ.set i (some u)).set j (some v)).set k (some w)) H
theorem rd_kp3 {Q : L2.St → Hp → Prop} {a b c : V} (h : Q (((σ.set i (some a)).set j (some b)).set k (some c)) H) : kp3 i j k [a, b, c] σ H Q := ⟨a, b, c, rfl, h⟩
theorem rd_par3 (h : l σ H fun vs H1 => kp3 i j k vs σ H1 D.nx) : tPar3 i j k l D σ H := h
theorem rd_aug {ti : TIp} (e : σ[i]? = some (some v)) (h : te σ H fun y H1 => ti v y H1 fun z H2 => D.nx (σ.set i (some z)) H2) : tAug i te ti D σ H := ⟨v, e, h⟩
theorem rd_for {wi : TI} {g : TG} {tb : TS} (h : wi σ H fun J H1 => ∃ W : Nat → Nat → L2.St → Hp → Prop, (∃ m, W 0 m σ H1) ∧ ∀ i m σ H, W i m σ H →
  (J.stop i H ∧ D.nx σ H) ∨ (J.go i H ∧ ∃ N : L2.St → Hp → Prop, (∀ σ' H', N σ' H' → ∃ m', m' < m ∧ W (i + 1) m' σ' H') ∧ ∀ x H', J.yld i H x H' → g x σ H' fun σ2 H2 => tb { D with nx := N, ct := N, bk := D.nx } σ2 H2)) : tFor wi g tb D σ H := h
theorem rd_gt {n : Nat} {g : TGs} {a : Addr} {xs : List V} {Q : L2.St → Hp → Prop} (h : SqT K H a xs) (e : xs.length = n) (q : g xs σ H Q) : gTup K n g (.ref a) σ H Q := ⟨a, xs, rfl, h, e, q⟩
theorem rd_gc {t : TG} {u : TGs} {xs : List V} {Q : L2.St → Hp → Prop} (h : t v σ H fun σ' H' => u xs σ' H' Q) : gCons t u (v :: xs) σ H Q := ⟨v, xs, rfl, h⟩
theorem rd_g0 {Q : L2.St → Hp → Prop} (h : Q σ H) : gNil [] σ H Q := ⟨rfl, h⟩
theorem rd_gs {to ti : TE} {st : TSet} {Q : L2.St → Hp → Prop} (h : to σ H fun o H1 => ti σ H1 fun i H2 => st o i v H2 fun H3 => Q σ H3) : gSub to ti st v σ H Q := h
end

section
variable {X : Cx}
theorem op_eqI : OpR X (compareOp .Eq) (rI0 fun i j => .bl (decide (i = j))) := opB0 fun _ _ _ _ _ _ _ q => eq_int (by rw [Bool.beq_eq_decide_eq]; exact q)
theorem op_neI : OpR X (compareOp .NotEq) (rI0 fun i j => .bl (!decide (i = j))) := opB0 fun _ _ _ _ _ _ _ q => ne_int (by rw [bne, Bool.beq_eq_decide_eq]; exact q)
end

theorem rd_lc {wi : TI} {g : TG} {tt : TT} {te : TE} {vs : List Nat} {σ : L2.St} {H : Hp} {Q : VK} (h : wi σ H fun J H1 => ∀ D, H1 D = none → ∃ W : Nat → Nat → Hp → Prop, (∃ m, W 0 m (upd H1 D (.lst []))) ∧ ∀ i m H, W i m H →
  (J.stop i H ∧ Q (.ref D) H) ∨ (J.go i H ∧ ∃ Nx : Hp → Prop, (∀ H', Nx H' → ∃ m', m' < m ∧ W (i + 1) m' H') ∧ ∀ x H', J.yld i H x H' → g x (wipe σ vs) H' fun σ2 H2 => wipe σ2 vs = wipe σ vs ∧ tt σ2 H2 fun b H3 =>
    if b = true then te σ2 H3 fun y H4 => ∃ acc, H4 D = some (.lst acc) ∧ acc.length < sizeLine ∧ Nx (upd H4 D (.lst (acc ++ [y]))) else Nx H3)) : tLc wi g tt te vs σ H Q := h
theorem rd_yes {σ : L2.St} {H : Hp} {Q : Bool → Hp → Prop} (h : Q true H) : tYes σ H Q := h

/-! ### isinstance; membership; is None -/
def rA : Rp V := fun _ x v => v = x
instance : Imm rA := ⟨fun _ h => h⟩
section
variable {α : Type} {K : PySem.W.Frag} {r : Rp α} {H : Hp} {Q : VK} {x : V} {a : Addr} {xs : List α} {S T : String} {b : Bool}
theorem isi_ty (hx : TyX K H x (.type S)) (e : kitB S T = some b) (q : Q (.bl b) H) : ap3 (rIsi K) [x, .ty T] H Q := ⟨x, .ty T, .type S, .type T, b, rfl, .ty T, hx, kit_ty e, q⟩
theorem ty_int {i : Int} : TyX K H (.int i) (.type "int") := .base (.int i)
theorem ty_bl {i : Bool} : TyX K H (.bl i) (.type "bool") := .base (.bl i)
theorem ty_str {i : Str} : TyX K H (.str i) (.type "str") := .base (.str i)
theorem ty_sqt {vs : List V} (h : SqT K H a vs) : TyX K H (.ref a) (.type "tuple") := by
  rcases h with (h | ⟨o, h⟩) | ⟨o, its, n, h, c, _⟩
  · exact .base (.tup h)
  · exact .fTuple h
  · exact .kTuple h c
theorem ty_T {v : V} (h : rT K r H xs v) : TyX K H v (.type "tuple") := by
  obtain ⟨a, rfl, vs, h1, _⟩ := h
  exact ty_sqt h1
theorem ty_P {β : Type} {s : Rp β} {p : α × β} {v : V} (h : rP K r s H p v) : TyX K H v (.type "tuple") := by
  obtain ⟨a, x, y, rfl, h, _⟩ := h
  exact ty_sqt h
theorem ty_L (h : Ls r H a xs) : TyX K H (.ref a) (.type "list") := by
  obtain ⟨vs, h1, _⟩ := h
  exact .base (.lst h1)
/-- a scalar of unknown kind -/
def scalV : V → Bool
  | .non => true | .bl _ => true | .int _ => true | .str _ => true
  | _ => false
def isIntV : V → Bool
  | .int _ => true | .bl _ => true
  | _ => false
def isBoolV : V → Bool
  | .bl _ => true
  | _ => false
theorem isi_intV (s : scalV x = true) (q : Q (.bl (isIntV x)) H) : ap3 (rIsi K) [x, .ty "int"] H Q := by
  cases x with
  | non => exact isi_ty (.base .non) (b := false) (by decide +kernel) q
  | bl i => exact isi_ty ty_bl (b := true) (by decide +kernel) q
  | int i => exact isi_ty ty_int (b := true) (by decide +kernel) q
  | str i => exact isi_ty ty_str (b := false) (by decide +kernel) q
  | _ => exact absurd (show false = true from s) Bool.false_ne_true
theorem isi_boolV (s : scalV x = true) (q : Q (.bl (isBoolV x)) H) : ap3 (rIsi K) [x, .ty "bool"] H Q := by
  cases x with
  | non => exact isi_ty (.base .non) (b := false) (by decide +kernel) q
  | bl i => exact isi_ty ty_bl (b := true) (by decide +kernel) q
  | int i => exact isi_ty ty_int (b := false) (by decide +kernel) q
  | str i => exact isi_ty ty_str (b := false) (by decide +kernel) q
  | _ => exact absurd (show false = true from s) Bool.false_ne_true
def rIsN : R2 := fun x y H Q => y = .non ∧ Q (.bl (decide (x = .non))) H
def rNotN : R2 := fun x y H Q => y = .non ∧ Q (.bl (!decide (x = .non))) H
theorem op_isN' {X : Cx} : OpR X (compareOp .Is) rIsN := op_isN
theorem op_notN' {X : Cx} : OpR X (compareOp .IsNot) rNotN := op_notN
theorem isN_opt {v : V} {o : Option α} (h : rO r H o v) (q : Q (.bl o.isNone) H) : rIsN v .non H Q := by
  refine ⟨rfl, ?_⟩
  cases o with
  | none =>
    rw [show v = V.non from h]
    exact q
  | some a =>
    rw [decide_eq_false h.1]
    exact q
theorem notN_opt {v : V} {o : Option α} (h : rO r H o v) (q : Q (.bl o.isSome) H) : rNotN v .non H Q := by
  refine ⟨rfl, ?_⟩
  cases o with
  | none =>
    rw [show v = V.non from h]
    exact q
  | some a =>
    rw [decide_eq_false h.1]
    exact q
end

section
variable {H : Hp} {Q : VK} {i j : Int}
theorem rd_abs (h : Q (.int (pabs i)) H) : ap3 (fun xs H Q => ∃ i, xs = [.int i] ∧ Q (.int (if i < 0 then -i else i)) H) [.int i] H Q := ⟨i, rfl, h⟩
theorem rd_int (h : Q (.int i) H) : ap3 (fun xs H Q => (∃ i, xs = [.int i] ∧ Q (.int i) H) ∨ ∃ k, xs = [.bl k] ∧ Q (.int (if k then 1 else 0)) H) [.int i] H Q := .inl ⟨i, rfl, h⟩
theorem rd_gcd (h : Q (.int (pgcd i j)) H) : ap3 rGcd [.int i, .int j] H Q := ⟨i, j, rfl, h⟩
theorem rd_ipI {f : Int → Int → Int} (h : Q (.int (f i j)) H) : ipI f (.int i) (.int j) H Q := ⟨i, j, rfl, rfl, h⟩
end

theorem cat_T {α : Type} {K : PySem.W.Frag} {r : Rp α} [Imm r] {H : Hp} {Q : VK} {xs ys : List α} {v w : V} (hx : rT K r H xs v) (hy : rT K r H ys w) (ne : xs.isEmpty = false) (l : lenOk (xs ++ ys)) (q : ∀ v H', Gr [] H H' → rT K r H' (xs ++ ys) v → Q v H') : rCatT K v w H Q := by
  obtain ⟨a, rfl, vs, h1, h2⟩ := hx
  obtain ⟨b, rfl, ws, h3, h4⟩ := hy
  refine ⟨a, b, vs, ws, rfl, rfl, h1, h3, ?_, ?_, ?_, ?_⟩
  · rintro rfl
    cases h2
    cases ne
  · rw [← Paired.length h2, ← Paired.length h4, ← List.length_append]
    exact l
  · rintro rfl
    cases h4
    rw [List.append_nil] at q
    exact q _ _ (Gr.refl H) ⟨a, rfl, vs, h1, h2⟩
  · intro _ p n
    exact q _ _ (Gr.new n) ⟨p, rfl, _, SqT.of upd_same, Paired.app (Paired.imm (Gr.new (A := []) n) h2) (Paired.imm (Gr.new (A := []) n) h4)⟩

section
variable {σ : L2.St} {H : Hp} {E : Er → Prop}
theorem ev_and3 {t0 t1 t2 : TT} {m0 m1 m2 : R Bool} (h0 : EvT t0 σ H m0 E) (h1 : ∀ H', Gr [] H H' → EvT t1 σ H' m1 E) (h2 : ∀ H', Gr [] H H' → EvT t2 σ H' m2 E) : EvT (tAnd t0 (tAnd t1 t2)) σ H (andR m0 (andR m1 m2)) E := ev_and h0 (fun H1 g1 => ev_and (h1 H1 g1) (fun H2 k2 => (have g2 := g1.trans k2; h2 H2 g2)))
theorem ev_and4 {t0 t1 t2 t3 : TT} {m0 m1 m2 m3 : R Bool} (h0 : EvT t0 σ H m0 E) (h1 : ∀ H', Gr [] H H' → EvT t1 σ H' m1 E) (h2 : ∀ H', Gr [] H H' → EvT t2 σ H' m2 E) (h3 : ∀ H', Gr [] H H' → EvT t3 σ H' m3 E) : EvT (tAnd t0 (tAnd t1 (tAnd t2 t3))) σ H (andR m0 (andR m1 (andR m2 m3))) E := ev_and h0 (fun H1 g1 => ev_and (h1 H1 g1) (fun H2 k2 => (have g2 := g1.trans k2; ev_and (h2 H2 g2) (fun H3 k3 => (have g3 := g2.trans k3; h3 H3 g3)))))
theorem ev_and5 {t0 t1 t2 t3 t4 : TT} {m0 m1 m2 m3 m4 : R Bool} (h0 : EvT t0 σ H m0 E) (h1 : ∀ H', Gr [] H H' → EvT t1 σ H' m1 E) (h2 : ∀ H', Gr [] H H' → EvT t2 σ H' m2 E) (h3 : ∀ H', Gr [] H H' → EvT t3 σ H' m3 E) (h4 : ∀ H', Gr [] H H' → EvT t4 σ H' m4 E) : EvT (tAnd t0 (tAnd t1 (tAnd t2 (tAnd t3 t4)))) σ H (andR m0 (andR m1 (andR m2 (andR m3 m4)))) E := ev_and h0 (fun H1 g1 => ev_and (h1 H1 g1) (fun H2 k2 => (have g2 := g1.trans k2; ev_and (h2 H2 g2) (fun H3 k3 => (have g3 := g2.trans k3; ev_and (h3 H3 g3) (fun H4 k4 => (have g4 := g3.trans k4; h4 H4 g4)))))))
theorem ev_and6 {t0 t1 t2 t3 t4 t5 : TT} {m0 m1 m2 m3 m4 m5 : R Bool} (h0 : EvT t0 σ H m0 E) (h1 : ∀ H', Gr [] H H' → EvT t1 σ H' m1 E) (h2 : ∀ H', Gr [] H H' → EvT t2 σ H' m2 E) (h3 : ∀ H', Gr [] H H' → EvT t3 σ H' m3 E) (h4 : ∀ H', Gr [] H H' → EvT t4 σ H' m4 E) (h5 : ∀ H', Gr [] H H' → EvT t5 σ H' m5 E) : EvT (tAnd t0 (tAnd t1 (tAnd t2 (tAnd t3 (tAnd t4 t5))))) σ H (andR m0 (andR m1 (andR m2 (andR m3 (andR m4 m5))))) E := ev_and h0 (fun H1 g1 => ev_and (h1 H1 g1) (fun H2 k2 => (have g2 := g1.trans k2; ev_and (h2 H2 g2) (fun H3 k3 => (have g3 := g2.trans k3; ev_and (h3 H3 g3) (fun H4 k4 => (have g4 := g3.trans k4; ev_and (h4 H4 g4) (fun H5 k5 => (have g5 := g4.trans k5; h5 H5 g5)))))))))
theorem ev_and7 {t0 t1 t2 t3 t4 t5 t6 : TT} {m0 m1 m2 m3 m4 m5 m6 : R Bool} (h0 : EvT t0 σ H m0 E) (h1 : ∀ H', Gr [] H H' → EvT t1 σ H' m1 E) (h2 : ∀ H', Gr [] H H' → EvT t2 σ H' m2 E) (h3 : ∀ H', Gr [] H H' → EvT t3 σ H' m3 E) (h4 : ∀ H', Gr [] H H' → EvT t4 σ H' m4 E) (h5 : ∀ H', Gr [] H H' → EvT t5 σ H' m5 E) (h6 : ∀ H', Gr [] H H' → EvT t6 σ H' m6 E) : EvT (tAnd t0 (tAnd t1 (tAnd t2 (tAnd t3 (tAnd t4 (tAnd t5 t6)))))) σ H (andR m0 (andR m1 (andR m2 (andR m3 (andR m4 (andR m5 m6)))))) E := ev_and h0 (fun H1 g1 => ev_and (h1 H1 g1) (fun H2 k2 => (have g2 := g1.trans k2; ev_and (h2 H2 g2) (fun H3 k3 => (have g3 := g2.trans k3; ev_and (h3 H3 g3) (fun H4 k4 => (have g4 := g3.trans k4; ev_and (h4 H4 g4) (fun H5 k5 => (have g5 := g4.trans k5; ev_and (h5 H5 g5) (fun H6 k6 => (have g6 := g5.trans k6; h6 H6 g6)))))))))))
theorem ev_and8 {t0 t1 t2 t3 t4 t5 t6 t7 : TT} {m0 m1 m2 m3 m4 m5 m6 m7 : R Bool} (h0 : EvT t0 σ H m0 E) (h1 : ∀ H', Gr [] H H' → EvT t1 σ H' m1 E) (h2 : ∀ H', Gr [] H H' → EvT t2 σ H' m2 E) (h3 : ∀ H', Gr [] H H' → EvT t3 σ H' m3 E) (h4 : ∀ H', Gr [] H H' → EvT t4 σ H' m4 E) (h5 : ∀ H', Gr [] H H' → EvT t5 σ H' m5 E) (h6 : ∀ H', Gr [] H H' → EvT t6 σ H' m6 E) (h7 : ∀ H', Gr [] H H' → EvT t7 σ H' m7 E) : EvT (tAnd t0 (tAnd t1 (tAnd t2 (tAnd t3 (tAnd t4 (tAnd t5 (tAnd t6 t7))))))) σ H (andR m0 (andR m1 (andR m2 (andR m3 (andR m4 (andR m5 (andR m6 m7))))))) E := ev_and h0 (fun H1 g1 => ev_and (h1 H1 g1) (fun H2 k2 => (have g2 := g1.trans k2; ev_and (h2 H2 g2) (fun H3 k3 => (have g3 := g2.trans k3; ev_and (h3 H3 g3) (fun H4 k4 => (have g4 := g3.trans k4; ev_and (h4 H4 g4) (fun H5 k5 => (have g5 := g4.trans k5; ev_and (h5 H5 g5) (fun H6 k6 => (have g6 := g5.trans k6; ev_and (h6 H6 g6) (fun H7 k7 => (have g7 := g6.trans k7; h7 H7 g7)))))))))))))
theorem ev_and9 {t0 t1 t2 t3 t4 t5 t6 t7 t8 : TT} {m0 m1 m2 m3 m4 m5 m6 m7 m8 : R Bool} (h0 : EvT t0 σ H m0 E) (h1 : ∀ H', Gr [] H H' → EvT t1 σ H' m1 E) (h2 : ∀ H', Gr [] H H' → EvT t2 σ H' m2 E) (h3 : ∀ H', Gr [] H H' → EvT t3 σ H' m3 E) (h4 : ∀ H', Gr [] H H' → EvT t4 σ H' m4 E) (h5 : ∀ H', Gr [] H H' → EvT t5 σ H' m5 E) (h6 : ∀ H', Gr [] H H' → EvT t6 σ H' m6 E) (h7 : ∀ H', Gr [] H H' → EvT t7 σ H' m7 E) (h8 : ∀ H', Gr [] H H' → EvT t8 σ H' m8 E) : EvT (tAnd t0 (tAnd t1 (tAnd t2 (tAnd t3 (tAnd t4 (tAnd t5 (tAnd t6 (tAnd t7 t8)))))))) σ H (andR m0 (andR m1 (andR m2 (andR m3 (andR m4 (andR m5 (andR m6 (andR m7 m8)))))))) E := ev_and h0 (fun H1 g1 => ev_and (h1 H1 g1) (fun H2 k2 => (have g2 := g1.trans k2; ev_and (h2 H2 g2) (fun H3 k3 => (have g3 := g2.trans k3; ev_and (h3 H3 g3) (fun H4 k4 => (have g4 := g3.trans k4; ev_and (h4 H4 g4) (fun H5 k5 => (have g5 := g4.trans k5; ev_and (h5 H5 g5) (fun H6 k6 => (have g6 := g5.trans k6; ev_and (h6 H6 g6) (fun H7 k7 => (have g7 := g6.trans k7; ev_and (h7 H7 g7) (fun H8 k8 => (have g8 := g7.trans k8; h8 H8 g8)))))))))))))))
theorem ev_andV3 {t0 t1 t2 : TE} {m0 m1 m2 : R Bool} (h0 : EvV rB t0 σ H m0 E) (h1 : ∀ H', Gr [] H H' → EvV rB t1 σ H' m1 E) (h2 : ∀ H', Gr [] H H' → EvV rB t2 σ H' m2 E) : EvV rB (tAndV t0 (tAndV t1 t2)) σ H (andR m0 (andR m1 m2)) E := ev_andV h0 (fun H1 g1 => ev_andV (h1 H1 g1) (fun H2 k2 => (have g2 := g1.trans k2; h2 H2 g2)))
theorem ev_andV4 {t0 t1 t2 t3 : TE} {m0 m1 m2 m3 : R Bool} (h0 : EvV rB t0 σ H m0 E) (h1 : ∀ H', Gr [] H H' → EvV rB t1 σ H' m1 E) (h2 : ∀ H', Gr [] H H' → EvV rB t2 σ H' m2 E) (h3 : ∀ H', Gr [] H H' → EvV rB t3 σ H' m3 E) : EvV rB (tAndV t0 (tAndV t1 (tAndV t2 t3))) σ H (andR m0 (andR m1 (andR m2 m3))) E := ev_andV h0 (fun H1 g1 => ev_andV (h1 H1 g1) (fun H2 k2 => (have g2 := g1.trans k2; ev_andV (h2 H2 g2) (fun H3 k3 => (have g3 := g2.trans k3; h3 H3 g3)))))
theorem ev_andV5 {t0 t1 t2 t3 t4 : TE} {m0 m1 m2 m3 m4 : R Bool} (h0 : EvV rB t0 σ H m0 E) (h1 : ∀ H', Gr [] H H' → EvV rB t1 σ H' m1 E) (h2 : ∀ H', Gr [] H H' → EvV rB t2 σ H' m2 E) (h3 : ∀ H', Gr [] H H' → EvV rB t3 σ H' m3 E) (h4 : ∀ H', Gr [] H H' → EvV rB t4 σ H' m4 E) : EvV rB (tAndV t0 (tAndV t1 (tAndV t2 (tAndV t3 t4)))) σ H (andR m0 (andR m1 (andR m2 (andR m3 m4)))) E := ev_andV h0 (fun H1 g1 => ev_andV (h1 H1 g1) (fun H2 k2 => (have g2 := g1.trans k2; ev_andV (h2 H2 g2) (fun H3 k3 => (have g3 := g2.trans k3; ev_andV (h3 H3 g3) (fun H4 k4 => (have g4 := g3.trans k4; h4 H4 g4)))))))
theorem ev_andV6 {t0 t1 t2 t3 t4 t5 : TE} {m0 m1 m2 m3 m4 m5 : R Bool} (h0 : EvV rB t0 σ H m0 E) (h1 : ∀ H', Gr [] H H' → EvV rB t1 σ H' m1 E) (h2 : ∀ H', Gr [] H H' → EvV rB t2 σ H' m2 E) (h3 : ∀ H', Gr [] H H' → EvV rB t3 σ H' m3 E) (h4 : ∀ H', Gr [] H H' → EvV rB t4 σ H' m4 E) (h5 : ∀ H', Gr [] H H' → EvV rB t5 σ H' m5 E) : EvV rB (tAndV t0 (tAndV t1 (tAndV t2 (tAndV t3 (tAndV t4 t5))))) σ H (andR m0 (andR m1 (andR m2 (andR m3 (andR m4 m5))))) E := ev_andV h0 (fun H1 g1 => ev_andV (h1 H1 g1) (fun H2 k2 => (have g2 := g1.trans k2; ev_andV (h2 H2 g2) (fun H3 k3 => (have g3 := g2.trans k3; ev_andV (h3 H3 g3) (fun H4 k4 => (have g4 := g3.trans k4; ev_andV (h4 H4 g4) (fun H5 k5 => (have g5 := g4.trans k5; h5 H5 g5)))))))))
theorem ev_andV7 {t0 t1 t2 t3 t4 t5 t6 : TE} {m0 m1 m2 m3 m4 m5 m6 : R Bool} (h0 : EvV rB t0 σ H m0 E) (h1 : ∀ H', Gr [] H H' → EvV rB t1 σ H' m1 E) (h2 : ∀ H', Gr [] H H' → EvV rB t2 σ H' m2 E) (h3 : ∀ H', Gr [] H H' → EvV rB t3 σ H' m3 E) (h4 : ∀ H', Gr [] H H' → EvV rB t4 σ H' m4 E) (h5 : ∀ H', Gr [] H H' → EvV rB t5 σ H' m5 E) (h6 : ∀ H', Gr [] H H' → EvV rB t6 σ H' m6 E) : EvV rB (tAndV t0 (tAndV t1 (tAndV t2 (tAndV t3 (tAndV t4 (tAndV t5 t6)))))) σ H (andR m0 (andR m1 (andR m2 (andR m3 (andR m4 (andR m5 m6)))))) E := ev_andV h0 (fun H1 g1 => ev_andV (h1 H1 g1) (fun H2 k2 => (have g2 := g1.trans k2; ev_andV (h2 H2 g2) (fun H3 k3 => (have g3 := g2.trans k3; ev_andV (h3 H3 g3) (fun H4 k4 => (have g4 := g3.trans k4; ev_andV (h4 H4 g4) (fun H5 k5 => (have g5 := g4.trans k5; ev_andV (h5 H5 g5) (fun H6 k6 => (have g6 := g5.trans k6; h6 H6 g6)))))))))))
theorem ev_andV8 {t0 t1 t2 t3 t4 t5 t6 t7 : TE} {m0 m1 m2 m3 m4 m5 m6 m7 : R Bool} (h0 : EvV rB t0 σ H m0 E) (h1 : ∀ H', Gr [] H H' → EvV rB t1 σ H' m1 E) (h2 : ∀ H', Gr [] H H' → EvV rB t2 σ H' m2 E) (h3 : ∀ H', Gr [] H H' → EvV rB t3 σ H' m3 E) (h4 : ∀ H', Gr [] H H' → EvV rB t4 σ H' m4 E) (h5 : ∀ H', Gr [] H H' → EvV rB t5 σ H' m5 E) (h6 : ∀ H', Gr [] H H' → EvV rB t6 σ H' m6 E) (h7 : ∀ H', Gr [] H H' → EvV rB t7 σ H' m7 E) : EvV rB (tAndV t0 (tAndV t1 (tAndV t2 (tAndV t3 (tAndV t4 (tAndV t5 (tAndV t6 t7))))))) σ H (andR m0 (andR m1 (andR m2 (andR m3 (andR m4 (andR m5 (andR m6 m7))))))) E := ev_andV h0 (fun H1 g1 => ev_andV (h1 H1 g1) (fun H2 k2 => (have g2 := g1.trans k2; ev_andV (h2 H2 g2) (fun H3 k3 => (have g3 := g2.trans k3; ev_andV (h3 H3 g3) (fun H4 k4 => (have g4 := g3.trans k4; ev_andV (h4 H4 g4) (fun H5 k5 => (have g5 := g4.trans k5; ev_andV (h5 H5 g5) (fun H6 k6 => (have g6 := g5.trans k6; ev_andV (h6 H6 g6) (fun H7 k7 => (have g7 := g6.trans k7; h7 H7 g7)))))))))))))
theorem ev_andV9 {t0 t1 t2 t3 t4 t5 t6 t7 t8 : TE} {m0 m1 m2 m3 m4 m5 m6 m7 m8 : R Bool} (h0 : EvV rB t0 σ H m0 E) (h1 : ∀ H', Gr [] H H' → EvV rB t1 σ H' m1 E) (h2 : ∀ H', Gr [] H H' → EvV rB t2 σ H' m2 E) (h3 : ∀ H', Gr [] H H' → EvV rB t3 σ H' m3 E) (h4 : ∀ H', Gr [] H H' → EvV rB t4 σ H' m4 E) (h5 : ∀ H', Gr [] H H' → EvV rB t5 σ H' m5 E) (h6 : ∀ H', Gr [] H H' → EvV rB t6 σ H' m6 E) (h7 : ∀ H', Gr [] H H' → EvV rB t7 σ H' m7 E) (h8 : ∀ H', Gr [] H H' → EvV rB t8 σ H' m8 E) : EvV rB (tAndV t0 (tAndV t1 (tAndV t2 (tAndV t3 (tAndV t4 (tAndV t5 (tAndV t6 (tAndV t7 t8)))))))) σ H (andR m0 (andR m1 (andR m2 (andR m3 (andR m4 (andR m5 (andR m6 (andR m7 m8)))))))) E := ev_andV h0 (fun H1 g1 => ev_andV (h1 H1 g1) (fun H2 k2 => (have g2 := g1.trans k2; ev_andV (h2 H2 g2) (fun H3 k3 => (have g3 := g2.trans k3; ev_andV (h3 H3 g3) (fun H4 k4 => (have g4 := g3.trans k4; ev_andV (h4 H4 g4) (fun H5 k5 => (have g5 := g4.trans k5; ev_andV (h5 H5 g5) (fun H6 k6 => (have g6 := g5.trans k6; ev_andV (h6 H6 g6) (fun H7 k7 => (have g7 := g6.trans k7; ev_andV (h7 H7 g7) (fun H8 k8 => (have g8 := g7.trans k8; h8 H8 g8)))))))))))))))
theorem ev_or3 {t0 t1 t2 : TT} {m0 m1 m2 : R Bool} (h0 : EvT t0 σ H m0 E) (h1 : ∀ H', Gr [] H H' → EvT t1 σ H' m1 E) (h2 : ∀ H', Gr [] H H' → EvT t2 σ H' m2 E) : EvT (tOr t0 (tOr t1 t2)) σ H (orR m0 (orR m1 m2)) E := ev_or h0 (fun H1 g1 => ev_or (h1 H1 g1) (fun H2 k2 => (have g2 := g1.trans k2; h2 H2 g2)))
theorem ev_or4 {t0 t1 t2 t3 : TT} {m0 m1 m2 m3 : R Bool} (h0 : EvT t0 σ H m0 E) (h1 : ∀ H', Gr [] H H' → EvT t1 σ H' m1 E) (h2 : ∀ H', Gr [] H H' → EvT t2 σ H' m2 E) (h3 : ∀ H', Gr [] H H' → EvT t3 σ H' m3 E) : EvT (tOr t0 (tOr t1 (tOr t2 t3))) σ H (orR m0 (orR m1 (orR m2 m3))) E := ev_or h0 (fun H1 g1 => ev_or (h1 H1 g1) (fun H2 k2 => (have g2 := g1.trans k2; ev_or (h2 H2 g2) (fun H3 k3 => (have g3 := g2.trans k3; h3 H3 g3)))))
theorem ev_or5 {t0 t1 t2 t3 t4 : TT} {m0 m1 m2 m3 m4 : R Bool} (h0 : EvT t0 σ H m0 E) (h1 : ∀ H', Gr [] H H' → EvT t1 σ H' m1 E) (h2 : ∀ H', Gr [] H H' → EvT t2 σ H' m2 E) (h3 : ∀ H', Gr [] H H' → EvT t3 σ H' m3 E) (h4 : ∀ H', Gr [] H H' → EvT t4 σ H' m4 E) : EvT (tOr t0 (tOr t1 (tOr t2 (tOr t3 t4)))) σ H (orR m0 (orR m1 (orR m2 (orR m3 m4)))) E := ev_or h0 (fun H1 g1 => ev_or (h1 H1 g1) (fun H2 k2 => (have g2 := g1.trans k2; ev_or (h2 H2 g2) (fun H3 k3 => (have g3 := g2.trans k3; ev_or (h3 H3 g3) (fun H4 k4 => (have g4 := g3.trans k4; h4 H4 g4)))))))
theorem ev_or6 {t0 t1 t2 t3 t4 t5 : TT} {m0 m1 m2 m3 m4 m5 : R Bool} (h0 : EvT t0 σ H m0 E) (h1 : ∀ H', Gr [] H H' → EvT t1 σ H' m1 E) (h2 : ∀ H', Gr [] H H' → EvT t2 σ H' m2 E) (h3 : ∀ H', Gr [] H H' → EvT t3 σ H' m3 E) (h4 : ∀ H', Gr [] H H' → EvT t4 σ H' m4 E) (h5 : ∀ H', Gr [] H H' → EvT t5 σ H' m5 E) : EvT (tOr t0 (tOr t1 (tOr t2 (tOr t3 (tOr t4 t5))))) σ H (orR m0 (orR m1 (orR m2 (orR m3 (orR m4 m5))))) E := ev_or h0 (fun H1 g1 => ev_or (h1 H1 g1) (fun H2 k2 => (have g2 := g1.trans k2; ev_or (h2 H2 g2) (fun H3 k3 => (have g3 := g2.trans k3; ev_or (h3 H3 g3) (fun H4 k4 => (have g4 := g3.trans k4; ev_or (h4 H4 g4) (fun H5 k5 => (have g5 := g4.trans k5; h5 H5 g5)))))))))
theorem ev_or7 {t0 t1 t2 t3 t4 t5 t6 : TT} {m0 m1 m2 m3 m4 m5 m6 : R Bool} (h0 : EvT t0 σ H m0 E) (h1 : ∀ H', Gr [] H H' → EvT t1 σ H' m1 E) (h2 : ∀ H', Gr [] H H' → EvT t2 σ H' m2 E) (h3 : ∀ H', Gr [] H H' → EvT t3 σ H' m3 E) (h4 : ∀ H', Gr [] H H' → EvT t4 σ H' m4 E) (h5 : ∀ H', Gr [] H H' → EvT t5 σ H' m5 E) (h6 : ∀ H', Gr [] H H' → EvT t6 σ H' m6 E) : EvT (tOr t0 (tOr t1 (tOr t2 (tOr t3 (tOr t4 (tOr t5 t6)))))) σ H (orR m0 (orR m1 (orR m2 (orR m3 (orR m4 (orR m5 m6)))))) E := ev_or h0 (fun H1 g1 => ev_or (h1 H1 g1) (fun H2 k2 => (have g2 := g1.trans k2; ev_or (h2 H2 g2) (fun H3 k3 => (have g3 := g2.trans k3; ev_or (h3 H3 g3) (fun H4 k4 => (have g4 := g3.trans k4; ev_or (h4 H4 g4) (fun H5 k5 => (have g5 := g4.trans k5; ev_or (h5 H5 g5) (fun H6 k6 => (have g6 := g5.trans k6; h6 H6 g6)))))))))))
theorem ev_or8 {t0 t1 t2 t3 t4 t5 t6 t7 : TT} {m0 m1 m2 m3 m4 m5 m6 m7 : R Bool} (h0 : EvT t0 σ H m0 E) (h1 : ∀ H', Gr [] H H' → EvT t1 σ H' m1 E) (h2 : ∀ H', Gr [] H H' → EvT t2 σ H' m2 E) (h3 : ∀ H', Gr [] H H' → EvT t3 σ H' m3 E) (h4 : ∀ H', Gr [] H H' → EvT t4 σ H' m4 E) (h5 : ∀ H', Gr [] H H' → EvT t5 σ H' m5 E) (h6 : ∀ H', Gr [] H H' → EvT t6 σ H' m6 E) (h7 : ∀ H', Gr [] H H' → EvT t7 σ H' m7 E) : EvT (tOr t0 (tOr t1 (tOr t2 (tOr t3 (tOr t4 (tOr t5 (tOr t6 t7))))))) σ H (orR m0 (orR m1 (orR m2 (orR m3 (orR m4 (orR m5 (orR m6 m7))))))) E := ev_or h0 (fun H1 g1 => ev_or (h1 H1 g1) (fun H2 k2 => (have g2 := g1.trans k2; ev_or (h2 H2 g2) (fun H3 k3 => (have g3 := g2.trans k3; ev_or (h3 H3 g3) (fun H4 k4 => (have g4 := g3.trans k4; ev_or (h4 H4 g4) (fun H5 k5 => (have g5 := g4.trans k5; ev_or (h5 H5 g5) (fun H6 k6 => (have g6 := g5.trans k6; ev_or (h6 H6 g6) (fun H7 k7 => (have g7 := g6.trans k7; h7 H7 g7)))))))))))))
theorem ev_or9 {t0 t1 t2 t3 t4 t5 t6 t7 t8 : TT} {m0 m1 m2 m3 m4 m5 m6 m7 m8 : R Bool} (h0 : EvT t0 σ H m0 E) (h1 : ∀ H', Gr [] H H' → EvT t1 σ H' m1 E) (h2 : ∀ H', Gr [] H H' → EvT t2 σ H' m2 E) (h3 : ∀ H', Gr [] H H' → EvT t3 σ H' m3 E) (h4 : ∀ H', Gr [] H H' → EvT t4 σ H' m4 E) (h5 : ∀ H', Gr [] H H' → EvT t5 σ H' m5 E) (h6 : ∀ H', Gr [] H H' → EvT t6 σ H' m6 E) (h7 : ∀ H', Gr [] H H' → EvT t7 σ H' m7 E) (h8 : ∀ H', Gr [] H H' → EvT t8 σ H' m8 E) : EvT (tOr t0 (tOr t1 (tOr t2 (tOr t3 (tOr t4 (tOr t5 (tOr t6 (tOr t7 t8)))))))) σ H (orR m0 (orR m1 (orR m2 (orR m3 (orR m4 (orR m5 (orR m6 (orR m7 m8)))))))) E := ev_or h0 (fun H1 g1 => ev_or (h1 H1 g1) (fun H2 k2 => (have g2 := g1.trans k2; ev_or (h2 H2 g2) (fun H3 k3 => (have g3 := g2.trans k3; ev_or (h3 H3 g3) (fun H4 k4 => (have g4 := g3.trans k4; ev_or (h4 H4 g4) (fun H5 k5 => (have g5 := g4.trans k5; ev_or (h5 H5 g5) (fun H6 k6 => (have g6 := g5.trans k6; ev_or (h6 H6 g6) (fun H7 k7 => (have g7 := g6.trans k7; ev_or (h7 H7 g7) (fun H8 k8 => (have g8 := g7.trans k8; h8 H8 g8)))))))))))))))
theorem ev_orV3 {t0 t1 t2 : TE} {m0 m1 m2 : R Bool} (h0 : EvV rB t0 σ H m0 E) (h1 : ∀ H', Gr [] H H' → EvV rB t1 σ H' m1 E) (h2 : ∀ H', Gr [] H H' → EvV rB t2 σ H' m2 E) : EvV rB (tOrV t0 (tOrV t1 t2)) σ H (orR m0 (orR m1 m2)) E := ev_orV h0 (fun H1 g1 => ev_orV (h1 H1 g1) (fun H2 k2 => (have g2 := g1.trans k2; h2 H2 g2)))
theorem ev_orV4 {t0 t1 t2 t3 : TE} {m0 m1 m2 m3 : R Bool} (h0 : EvV rB t0 σ H m0 E) (h1 : ∀ H', Gr [] H H' → EvV rB t1 σ H' m1 E) (h2 : ∀ H', Gr [] H H' → EvV rB t2 σ H' m2 E) (h3 : ∀ H', Gr [] H H' → EvV rB t3 σ H' m3 E) : EvV rB (tOrV t0 (tOrV t1 (tOrV t2 t3))) σ H (orR m0 (orR m1 (orR m2 m3))) E := ev_orV h0 (fun H1 g1 => ev_orV (h1 H1 g1) (fun H2 k2 => (have g2 := g1.trans k2; ev_orV (h2 H2 g2) (fun H3 k3 => (have g3 := g2.trans k3; h3 H3 g3)))))
theorem ev_orV5 {t0 t1 t2 t3 t4 : TE} {m0 m1 m2 m3 m4 : R Bool} (h0 : EvV rB t0 σ H m0 E) (h1 : ∀ H', Gr [] H H' → EvV rB t1 σ H' m1 E) (h2 : ∀ H', Gr [] H H' → EvV rB t2 σ H' m2 E) (h3 : ∀ H', Gr [] H H' → EvV rB t3 σ H' m3 E) (h4 : ∀ H', Gr [] H H' → EvV rB t4 σ H' m4 E) : EvV rB (tOrV t0 (tOrV t1 (tOrV t2 (tOrV t3 t4)))) σ H (orR m0 (orR m1 (orR m2 (orR m3 m4)))) E := ev_orV h0 (fun H1 g1 => ev_orV (h1 H1 g1) (fun H2 k2 => (have g2 := g1.trans k2; ev_orV (h2 H2 g2) (fun H3 k3 => (have g3 := g2.trans k3; ev_orV (h3 H3 g3) (fun H4 k4 => (have g4 := g3.trans k4; h4 H4 g4)))))))
theorem ev_orV6 {t0 t1 t2 t3 t4 t5 : TE} {m0 m1 m2 m3 m4 m5 : R Bool} (h0 : EvV rB t0 σ H m0 E) (h1 : ∀ H', Gr [] H H' → EvV rB t1 σ H' m1 E) (h2 : ∀ H', Gr [] H H' → EvV rB t2 σ H' m2 E) (h3 : ∀ H', Gr [] H H' → EvV rB t3 σ H' m3 E) (h4 : ∀ H', Gr [] H H' → EvV rB t4 σ H' m4 E) (h5 : ∀ H', Gr [] H H' → EvV rB t5 σ H' m5 E) : EvV rB (tOrV t0 (tOrV t1 (tOrV t2 (tOrV t3 (tOrV t4 t5))))) σ H (orR m0 (orR m1 (orR m2 (orR m3 (orR m4 m5))))) E := ev_orV h0 (fun H1 g1 => ev_orV (h1 H1 g1) (fun H2 k2 => (have g2 := g1.trans k2; ev_orV (h2 H2 g2) (fun H3 k3 => (have g3 := g2.trans k3; ev_orV (h3 H3 g3) (fun H4 k4 => (have g4 := g3.trans k4; ev_orV (h4 H4 g4) (fun H5 k5 => (have g5 := g4.trans k5; h5 H5 g5)))))))))
theorem ev_orV7 {t0 t1 t2 t3 t4 t5 t6 : TE} {m0 m1 m2 m3 m4 m5 m6 : R Bool} (h0 : EvV rB t0 σ H m0 E) (h1 : ∀ H', Gr [] H H' → EvV rB t1 σ H' m1 E) (h2 : ∀ H', Gr [] H H' → EvV rB t2 σ H' m2 E) (h3 : ∀ H', Gr [] H H' → EvV rB t3 σ H' m3 E) (h4 : ∀ H', Gr [] H H' → EvV rB t4 σ H' m4 E) (h5 : ∀ H', Gr [] H H' → EvV rB t5 σ H' m5 E) (h6 : ∀ H', Gr [] H H' → EvV rB t6 σ H' m6 E) : EvV rB (tOrV t0 (tOrV t1 (tOrV t2 (tOrV t3 (tOrV t4 (tOrV t5 t6)))))) σ H (orR m0 (orR m1 (orR m2 (orR m3 (orR m4 (orR m5 m6)))))) E := ev_orV h0 (fun H1 g1 => ev_orV (h1 H1 g1) (fun H2 k2 => (have g2 := g1.trans k2; ev_orV (h2 H2 g2) (fun H3 k3 => (have g3 := g2.trans k3; ev_orV (h3 H3 g3) (fun H4 k4 => (have g4 := g3.trans k4; ev_orV (h4 H4 g4) (fun H5 k5 => (have g5 := g4.trans k5; ev_orV (h5 H5 g5) (fun H6 k6 => (have g6 := g5.trans k6; h6 H6 g6)))))))))))
theorem ev_orV8 {t0 t1 t2 t3 t4 t5 t6 t7 : TE} {m0 m1 m2 m3 m4 m5 m6 m7 : R Bool} (h0 : EvV rB t0 σ H m0 E) (h1 : ∀ H', Gr [] H H' → EvV rB t1 σ H' m1 E) (h2 : ∀ H', Gr [] H H' → EvV rB t2 σ H' m2 E) (h3 : ∀ H', Gr [] H H' → EvV rB t3 σ H' m3 E) (h4 : ∀ H', Gr [] H H' → EvV rB t4 σ H' m4 E) (h5 : ∀ H', Gr [] H H' → EvV rB t5 σ H' m5 E) (h6 : ∀ H', Gr [] H H' → EvV rB t6 σ H' m6 E) (h7 : ∀ H', Gr [] H H' → EvV rB t7 σ H' m7 E) : EvV rB (tOrV t0 (tOrV t1 (tOrV t2 (tOrV t3 (tOrV t4 (tOrV t5 (tOrV t6 t7))))))) σ H (orR m0 (orR m1 (orR m2 (orR m3 (orR m4 (orR m5 (orR m6 m7))))))) E := ev_orV h0 (fun H1 g1 => ev_orV (h1 H1 g1) (fun H2 k2 => (have g2 := g1.trans k2; ev_orV (h2 H2 g2) (fun H3 k3 => (have g3 := g2.trans k3; ev_orV (h3 H3 g3) (fun H4 k4 => (have g4 := g3.trans k4; ev_orV (h4 H4 g4) (fun H5 k5 => (have g5 := g4.trans k5; ev_orV (h5 H5 g5) (fun H6 k6 => (have g6 := g5.trans k6; ev_orV (h6 H6 g6) (fun H7 k7 => (have g7 := g6.trans k7; h7 H7 g7)))))))))))))
theorem ev_orV9 {t0 t1 t2 t3 t4 t5 t6 t7 t8 : TE} {m0 m1 m2 m3 m4 m5 m6 m7 m8 : R Bool} (h0 : EvV rB t0 σ H m0 E) (h1 : ∀ H', Gr [] H H' → EvV rB t1 σ H' m1 E) (h2 : ∀ H', Gr [] H H' → EvV rB t2 σ H' m2 E) (h3 : ∀ H', Gr [] H H' → EvV rB t3 σ H' m3 E) (h4 : ∀ H', Gr [] H H' → EvV rB t4 σ H' m4 E) (h5 : ∀ H', Gr [] H H' → EvV rB t5 σ H' m5 E) (h6 : ∀ H', Gr [] H H' → EvV rB t6 σ H' m6 E) (h7 : ∀ H', Gr [] H H' → EvV rB t7 σ H' m7 E) (h8 : ∀ H', Gr [] H H' → EvV rB t8 σ H' m8 E) : EvV rB (tOrV t0 (tOrV t1 (tOrV t2 (tOrV t3 (tOrV t4 (tOrV t5 (tOrV t6 (tOrV t7 t8)))))))) σ H (orR m0 (orR m1 (orR m2 (orR m3 (orR m4 (orR m5 (orR m6 (orR m7 m8)))))))) E := ev_orV h0 (fun H1 g1 => ev_orV (h1 H1 g1) (fun H2 k2 => (have g2 := g1.trans k2; ev_orV (h2 H2 g2) (fun H3 k3 => (have g3 := g2.trans k3; ev_orV (h3 H3 g3) (fun H4 k4 => (have g4 := g3.trans k4; ev_orV (h4 H4 g4) (fun H5 k5 => (have g5 := g4.trans k5; ev_orV (h5 H5 g5) (fun H6 k6 => (have g6 := g5.trans k6; ev_orV (h6 H6 g6) (fun H7 k7 => (have g7 := g6.trans k7; ev_orV (h7 H7 g7) (fun H8 k8 => (have g8 := g7.trans k8; h8 H8 g8)))))))))))))))
end
end Mir
set_option Elab.async false
set_option linter.all false
set_option maxRecDepth 100000
namespace Mir
open PySem PySem.Spec PyProof.Rows L2
variable [Nm]
/-! ### errors of the program: the classes that a law's text holds -/
structure Xc where
  fault : Option Addr
  zd : Option Addr
  mal : Option Addr
  refu : Option Addr
  nt : Option Addr
def xe0 (c : Option Addr) (A : List Addr) (H : Hp) (E : XK) : Prop := ∃ a, c = some a ∧ ∀ H', Gr A H H' → E (.ref a) none H'
def xe1 (c : Option Addr) (f : Str) (v : V) (A : List Addr) (H : Hp) (E : XK) : Prop := ∃ a, c = some a ∧ ∀ d H', Gr A H H' → H' d = some (.xd [(f, v)]) → E (.ref a) (some d) H'
def XEr (C : Xc) (A : List Addr) (H : Hp) (E : XK) : Er → Prop
  | .zd => xe0 C.zd A H E
  | .mal => xe0 C.mal A H E
  | .refu r => xe1 C.refu "reason" (.str r) A H E
  | .nt i => xe1 C.nt "at" (.int i) A H E
section
variable {C : Xc} {A : List Addr} {H H' : Hp} {E : XK} {e : Er}
theorem xe0_at {c : Option Addr} {a : Addr} (h : xe0 c A H E) (e : c = some a) (g : Gr A H H') : E (.ref a) none H' := by
  obtain ⟨b, e2, h⟩ := h
  rw [e] at e2
  cases e2
  exact h H' g
theorem xe1_at {c : Option Addr} {f : Str} {v : V} {a d : Addr} (h : xe1 c f v A H E) (e : c = some a) (g : Gr A H H') (hd : H' d = some (.xd [(f, v)])) : E (.ref a) (some d) H' := by
  obtain ⟨b, e2, h⟩ := h
  rw [e] at e2
  cases e2
  exact h d H' g hd
theorem XEr.sub (g : Gr A H H') (h : XEr C A H E e) : XEr C [] H' E e := by
  cases e with
  | zd => obtain ⟨a, e, h⟩ := h; exact ⟨a, e, fun H2 g2 => h H2 (g.of0' g2)⟩
  | mal => obtain ⟨a, e, h⟩ := h; exact ⟨a, e, fun H2 g2 => h H2 (g.of0' g2)⟩
  | refu r => obtain ⟨a, e, h⟩ := h; exact ⟨a, e, fun d H2 g2 hd => h d H2 (g.of0' g2) hd⟩
  | nt i => obtain ⟨a, e, h⟩ := h; exact ⟨a, e, fun d H2 g2 hd => h d H2 (g.of0' g2) hd⟩
/-- .. at an error class that the text does not hold, nothing is promised -/
theorem xe0_no {c : Option Addr} (h : xe0 c A H E) (e : c = none) : False := by
  obtain ⟨a, e2, _⟩ := h
  rw [e] at e2
  cases e2
theorem xe1_no {c : Option Addr} {f : Str} {v : V} (h : xe1 c f v A H E) (e : c = none) : False := by
  obtain ⟨a, e2, _⟩ := h
  rw [e] at e2
  cases e2
end
/-- an answer that is no error -/
def noEr {α : Type} (m : R α) : R α := match m with
  | .ok a => .ok a
  | .er _ => .out
  | .out => .out
def tryR {α : Type} (m : R α) (h : Er → R α) : R α := match m with
  | .ok a => .ok a
  | .er e => h e
  | .out => .out
@[reducible] def Er.on {ρ : Type} (e : Er) (z m : ρ) (r : Str → ρ) (n : Int → ρ) : ρ := match e with
  | .zd => z
  | .mal => m
  | .refu x => r x
  | .nt i => n i
theorem wp_noEr {α : Type} {m : R α} {P : α → Prop} {E : Er → Prop} (h : wp (noEr m) P E) : wp m P fun _ => False := by
  cases m with
  | ok a => exact h
  | er x => exact h.elim
  | out => exact h
theorem wp_bindN {α β : Type} {Q : β → Prop} {E : Er → Prop} {m : R α} {f : α → R β} (h : wp ((noEr m).bind f) Q E) : wp m (fun a => wp (f a) Q E) fun _ => False := wp_noEr (wp_bind h)
theorem wp_tryR {α : Type} {m : R α} {k : Er → R α} {P : α → Prop} {E : Er → Prop} (h : wp (tryR m k) P E) : wp m P fun e => wp (k e) P E := by
  cases m <;> exact h
theorem rd_callS {sp : Sp} {E : L2.St → XK} {l : TA} {σ : L2.St} {H : Hp} {Q : VK} (h : l σ H fun vs H1 => sp vs H1 Q (E σ)) : tCallS sp E l σ H Q := h
/-! ### try -/
def tTryAs (K : PySem.W.Frag) (c : Value) (i : Nat) (ts : Addr → Value → Option Addr → TS) (Wout : WX) (tb : WX → TS) : TS := fun D σ H => tb (wAs K c i ts Wout D) D σ H
def tTryOnly (K : PySem.W.Frag) (c : Value) (ts : Addr → Value → Option Addr → TS) (Wout : WX) (tb : WX → TS) : TS := fun D σ H => tb (wOnly K c ts Wout D) D σ H
theorem ps_tryAs {X : Cx} {x n : Str} {c : Value} {i : Nat} {body suite : List Stmt} {b₀ : Stmt} {np pos pos' : Pos} {tb : WX → TS} {ts : Addr → Value → Option Addr → TS} {Wout : WX}
    (hs : X.stack = X.env :: X.outer) (hf : X.env.frame = some X.env.locals) (hN : X.N.Nodup) (hi : X.N[i]? = some n) (hln : X.env.kindOf n = some .local) (hc : Names X x c) (tk : Takes X Wout)
    (hb : ∀ (W : WX) (pn : List (Addr × Obj)) (xe : Value → Shared → Prop), Takes (X.tr pn xe) W → PassesOwn (model X.prog X.w) X.A X.env xe → PSs (X.tr pn xe) body (tb W))
    (hh : ∀ (a : Addr) (oe : Obj) (cls : Value) (d : Option Addr) (pn : List (Addr × Obj)), Zc cls d oe → (∃ vs, oe.data = .fields vs) → PSs (X.suite a ((a, oe) :: pn)) (b₀ :: suite) (ts a cls d)) :
    PS X (.Try body [.ExceptHandler (some (.Name x np)) (some n) (b₀ :: suite) pos'] [] [] pos) (tTryAs X.K c i ts Wout tb) := ps_try_as hs hf hN hi hln hc tk hb hh
theorem ps_tryOnly {X : Cx} {x : Str} {c : Value} {body suite : List Stmt} {b₀ : Stmt} {np pos pos' : Pos} {tb : WX → TS} {ts : Addr → Value → Option Addr → TS} {Wout : WX}
    (hs : X.stack = X.env :: X.outer) (hf : X.env.frame = some X.env.locals) (hc : Names X x c) (tk : Takes X Wout)
    (hb : ∀ (W : WX) (pn : List (Addr × Obj)) (xe : Value → Shared → Prop), Takes (X.tr pn xe) W → PassesOwn (model X.prog X.w) X.A X.env xe → PSs (X.tr pn xe) body (tb W))
    (hh : ∀ (a : Addr) (oe : Obj) (cls : Value) (d : Option Addr) (pn : List (Addr × Obj)), Zc cls d oe → (∃ vs, oe.data = .fields vs) → PSs (X.suite a ((a, oe) :: pn)) (b₀ :: suite) (ts a cls d)) :
    PS X (.Try body [.ExceptHandler (some (.Name x np)) none (b₀ :: suite) pos'] [] [] pos) (tTryOnly X.K c ts Wout tb) := ps_try_only hs hf hc tk hb hh
section
variable {K : PySem.W.Frag} {c : Value} {i : Nat} {ts : Addr → Value → Option Addr → TS} {Wout : WX} {tb : WX → TS} {D : Ends} {σ : L2.St} {H : Hp} {α : Type} {m : R α} {k : Er → R α} {P : α → Prop} {E : Er → Prop}
/-- what the handlers do is shown once, for every state that the body may leave -/
theorem rd_tryAs (C : Xc) (rel : L2.St → Hp → Prop) (hm : wp (tryR m k) P E)
    (hs : ∀ (e : Er) σ H, rel σ H → wp (k e) P E → XEr C [] H (WE (wAs K c i ts Wout D) σ) e)
    (hb : ∀ (W : WX), (∀ (e : Er) σ H, rel σ H → wp (k e) P E → XEr C [] H (WE W σ) e) → wp m P (fun e => wp (k e) P E) → tb W D σ H) : tTryAs K c i ts Wout tb D σ H :=
  hb _ hs (wp_tryR hm)
theorem rd_tryOnly (C : Xc) (rel : L2.St → Hp → Prop) (hm : wp (tryR m k) P E)
    (hs : ∀ (e : Er) σ H, rel σ H → wp (k e) P E → XEr C [] H (WE (wOnly K c ts Wout D) σ) e)
    (hb : ∀ (W : WX), (∀ (e : Er) σ H, rel σ H → wp (k e) P E → XEr C [] H (WE W σ) e) → wp m P (fun e => wp (k e) P E) → tb W D σ H) : tTryOnly K c ts Wout tb D σ H :=
  hb _ hs (wp_tryR hm)
end
/-! ### what is known of an error class without __init__ -/
structure Xk (K : PySem.W.Frag) (mg : Str → Option Value) (x : Str) (c : Addr) : Prop where
  g : mg x = some (.ref c)
  x : PySem.W.excIn K c [.type "ValueError", .type "Exception", .type "BaseException", .type "object"] "ValueError.__new__" = true
  k : PySem.W.keepIn K (.ref c) = true
  b : PySem.W.subIn K (.ref c) (.type "BaseException") = some true
  t : PySem.W.typeIn K (.ref c) = some (.type "type")
/-! ### isinstance of a caught error -/
def rIsX (K : PySem.W.Frag) (a : Addr) (cls : Value) (d : Option Addr) (xs : List V) (H : Hp) (Q : VK) : Prop := ∃ (D : Addr) (c : V) (b : Bool), cls = .ref D ∧ d = none ∧ ExcC K D ∧ xs = [.ref a, c] ∧
  ((∃ cv, (∀ u, RelV c u → u = cv) ∧ PySem.W.kitOne K (.ref D) cv = some b) ∨ (∃ p vs its, c = .ref p ∧ H p = some (.tup vs) ∧ (∀ us, Vals vs us → us = its) ∧ PySem.W.kitAny K (.ref D) its = some b)) ∧ Q (.bl b) H
theorem call_isX {X : Cx} {a : Addr} {cls : Value} {d : Option Addr} {oe : Obj} {pn : List (Addr × Obj)} (hz : Zc cls d oe) (hf : ∃ vs, oe.data = .fields vs) :
    CallR (X.suite a ((a, oe) :: pn)) (.builtin "isinstance") (rIsX X.K a cls d) := by
  intro pins s σ H xs us Q I r h
  obtain ⟨D, c, b, rfl, rfl, C, rfl, h, q⟩ := h
  rcases h with ⟨cv, hcv, e⟩ | ⟨p, vs, its, rfl, hp, hi, e⟩
  · exact call_isE C hz hf pins s σ H _ us Q I r ⟨c, cv, b, rfl, hcv, e, q⟩
  · cases r with
    | cons rx rr =>
      cases rr with
      | cons rt rn =>
        cases rn
        obtain rfl := rx
        obtain rfl := rt
        obtain ⟨hget, _⟩ := I.pin (a, oe) (List.mem_append_left _ List.mem_cons_self)
        obtain ⟨vs', hv⟩ := hf
        have J : PySem.W.InstAt s.heap a oe D none := ⟨hget, hz.1, by unfold PySem.W.notCls; rw [hv] <;> rfl, by rw [hz.2]; trivial⟩
        have ht : ObjOk X.prog X.w H s.heap p (.tup vs) := I.hok p _ hp
        obtain ⟨hl, its', hv', it⟩ := ht
        obtain rfl := hi _ hv'
        obtain ⟨dd, n, sl, hg⟩ : ∃ dd n sl, s.heap.get? p = some ⟨.type "tuple", dd, .seq (List.toArray its') n, sl⟩ := by
          obtain ⟨o, h1, h2, n, h3⟩ := it
          obtain ⟨cl, dc, dt, sl⟩ := o
          cases h2
          cases h3
          exact ⟨_, _, _, h1⟩
        exact PySem.W.kia_tup (PySem.W.handS_kitx_exc C.hg C.hk C.hs C.hd C.ha C.hn C.ht C.hm) I.kIn J hg e (by simp) fun tk => ⟨.bl b, H, I.tok _, rfl, q⟩
theorem isX_one {K : PySem.W.Frag} {D a : Addr} {c : V} {cv : Value} {b : Bool} {H : Hp} {Q : VK} (C : ExcC K D) (e : PySem.W.kitOne K (.ref D) cv = some b) (hc : ∀ u, RelV c u → u = cv) (q : Q (.bl b) H) : ap3 (rIsX K a (.ref D) none) [.ref a, c] H Q :=
  ⟨D, c, b, rfl, rfl, C, rfl, .inl ⟨cv, hc, e⟩, q⟩
theorem isX_tup {K : PySem.W.Frag} {D a p : Addr} {vs : List V} {its : List Value} {b : Bool} {H : Hp} {Q : VK} (C : ExcC K D) (hp : H p = some (.tup vs)) (hi : ∀ us, Vals vs us → us = its) (e : PySem.W.kitAny K (.ref D) its = some b) (q : Q (.bl b) H) : ap3 (rIsX K a (.ref D) none) [.ref a, .ref p] H Q :=
  ⟨D, .ref p, b, rfl, rfl, C, rfl, .inr ⟨p, vs, its, rfl, hp, hi, e⟩, q⟩
theorem vals_refs : ∀ {cs : List Addr} {us : List Value}, Vals (cs.map V.ref) us → us = cs.map Value.ref
  | [], _, h => by cases h; rfl
  | c :: cs, _, h => by
    cases h with
    | cons r t =>
      obtain rfl := r
      rw [vals_refs t]
      rfl
theorem mk_X {vs : List V} {H : Hp} {Q : VK} (l : vs.length ≤ sizeLine) (q : ∀ p H', Gr [] H H' → H' p = some (.tup vs) → Q (.ref p) H') : aTup vs H Q := ⟨l, fun p n => q p _ (Gr.new n) upd_same⟩
theorem kc_of {K : PySem.W.Frag} {C : Addr} {cls : Value} {b : Bool} (h1 : PySem.W.subIn K (.ref C) (.type "BaseException") = some true) (h2 : PySem.W.hasDictIn K C = true) (h3 : PySem.W.typeIn K (.ref C) = some (.type "type")) (h4 : PySem.W.subIn K cls (.ref C) = some b) : PySem.W.kitCls K cls (.ref C) = some b := by
  have := PySem.W.exm_ref h1 h2 h3 h4
  unfold PySem.W.exmOne at this
  rw [h1] at this
  simpa using this
theorem ko_true {K : PySem.W.Frag} {t c : Value} (h : PySem.W.kitCls K t c = some true) : PySem.W.kitOne K t c = some true := by
  unfold PySem.W.kitOne
  split
  · rfl
  · exact h
theorem ko_false {K : PySem.W.Frag} {t C : Addr} (h : PySem.W.kitCls K (.ref t) (.ref C) = some false) (s : PySem.W.subIn K (.ref t) (.ref C) = some false) (s2 : PySem.W.subIn K (.ref t) (.ref t) = some true) : PySem.W.kitOne K (.ref t) (.ref C) = some false := by
  unfold PySem.W.kitOne
  split
  · rename_i e
    have e2 : (Value.ref t) = .ref C := by simpa using e
    rw [← e2, s2] at s
    cases s
  · exact h
theorem ka_nil {K : PySem.W.Frag} {t : Value} : PySem.W.kitAny K t [] = some false := rfl
theorem ka_cons {K : PySem.W.Frag} {t c : Value} {cs : List Value} {b : Bool} (h : PySem.W.kitOne K t c = some false) (h2 : PySem.W.kitAny K t cs = some b) : PySem.W.kitAny K t (c :: cs) = some b := by
  unfold PySem.W.kitAny
  rw [h]
  exact h2
theorem ka_hit {K : PySem.W.Frag} {t c : Value} {cs : List Value} (h : PySem.W.kitOne K t c = some true) : PySem.W.kitAny K t (c :: cs) = some true := by
  unfold PySem.W.kitAny
  rw [h]
theorem kt_of {K : PySem.W.Frag} {T : String} {t : Value} {b : Bool} (m : PySem.W.kitMeta T = true) (h : PySem.W.subIn K t (.type T) = some b) : PySem.W.kitCls K t (.type T) = some b := by
  unfold PySem.W.kitCls
  simp [m, h]
section
variable {ρ : Type} {z m : R ρ} {r : Str → R ρ} {n : Int → R ρ} {P : ρ → Prop} {E : Er → Prop} {x : Str} {i : Int}
theorem wp_on_zd (h : wp (Er.on .zd z m r n) P E) : wp z P E := h
theorem wp_on_mal (h : wp (Er.on .mal z m r n) P E) : wp m P E := h
theorem wp_on_refu (h : wp (Er.on (.refu x) z m r n) P E) : wp (r x) P E := h
theorem wp_on_nt (h : wp (Er.on (.nt i) z m r n) P E) : wp (n i) P E := h
end
end Mir
set_option Elab.async false
set_option linter.all false
set_option maxRecDepth 100000
namespace Mir
open PySem PySem.Spec PyProof.Rows L2
variable [Nm]
/-! ### any, all of a list or tuple of numbers, flags -/
def truF : V → Bool
  | .int i => i != 0
  | .bl b => b
  | _ => false
def isF : V → Bool
  | .int _ => true
  | .bl _ => true
  | .non => true
  | _ => false
def rAnyF (K : PySem.W.Frag) (vs : List V) (H : Hp) (Q : VK) : Prop := ∃ a xs, vs = [.ref a] ∧ (SqL K H a xs ∨ SqT K H a xs) ∧ (∀ x ∈ xs, isF x = true) ∧ Q (.bl (xs.any truF)) H
theorem any_rangeF : ∀ (xs : List V), ((List.range xs.length).any fun i => truF (xs.getD i .non)) = xs.any truF := by
  intro xs
  rw [Bool.eq_iff_iff, List.any_eq_true, List.any_eq_true]
  constructor
  · rintro ⟨i, hi, ht⟩
    have hi := List.mem_range.mp hi
    exact ⟨xs[i], List.getElem_mem hi, by rw [List.getD_eq_getElem?_getD, List.getElem?_eq_getElem hi] at ht; exact ht⟩
  · rintro ⟨x, hx, ht⟩
    obtain ⟨i, hi, e⟩ := List.getElem_of_mem hx
    exact ⟨i, List.mem_range.mpr hi, by rw [List.getD_eq_getElem?_getD, List.getElem?_eq_getElem hi]; exact e ▸ ht⟩
theorem truth_flat {prog : Program} {w : World} {A : Around} {xs : List V} {its : List Value} (r : Vals xs its) (hf : ∀ x ∈ xs, isF x = true) :
    TruthOf prog w A (fun i v => (List.toArray its)[i]? = some v) fun i => truF (xs.getD i .non) := by
  intro i v s Q E hv hq
  have hv' : its[i]? = some v := by simpa using hv
  obtain ⟨x, hx, rx⟩ : ∃ x, xs[i]? = some x ∧ RelV x v := by
    clear hq hf
    induction r generalizing i with
    | nil => simp at hv'
    | cons h t ih =>
      cases i with
      | zero =>
        simp at hv'
        subst hv'
        exact ⟨_, rfl, h⟩
      | succ i => simpa using ih i (by simpa using hv') (by simpa using hv')
  have e : xs.getD i .non = x := by rw [List.getD_eq_getElem?_getD, hx]; rfl
  have hq : Q (truF x) s := by
    have h2 : Q (truF (xs.getD i .non)) s := hq
    rw [e] at h2
    exact h2
  have hm := hf x (List.mem_of_getElem? hx)
  cases x with
  | int n => obtain ⟨t, rfl⟩ := rx; exact P.truthy_int hq
  | bl b => obtain rfl := rx; exact wpAny_truthy_bool hq
  | non => obtain rfl := rx; exact PyProof.Rows.truthy_none hq
  | _ => cases hm
theorem cr_anyF {X : Cx} (hc : X.calm = true) : CallR X (.builtin "any") (rAnyF X.K) := by
  intro pins s σ H vs us Q I r h
  obtain ⟨a, xs, rfl, hs, hf, q⟩ := h
  rw [Vals.ref1 r]
  rcases hs with hs | hs
  · obtain ⟨its, rv, hl, _⟩ := I.list hs
    refine call_any_walk (iter_any hl.isList fun s₂ e2 st hne => ?_)
    subst e2
    refine ⟨s.heap.objs.size, [s.heap.objs.size, a], [s.heap.objs.size], its.toArray.size, (fun i v => its.toArray[i]? = some v), (fun i h => Heap.IsListIter h s.heap.objs.size a i ∧ Heap.IsList h a its.toArray), _, rfl, Walks.list (A := X.A.in1) (I.ok.hd hc) _ a hne its.toArray, st, truth_flat rv hf, fun h' tk hk => ?_⟩
    refine ⟨.bl (xs.any truF), H, I.kept fun b o eo => hk b o (fun hmem => ?_) (Heap.get?_push_of_some _ eo), ?_, q⟩
    · rcases List.mem_cons.mp hmem with e1 | hmem
      · exact absurd (e1 ▸ Heap.lt_size eo) (Nat.lt_irrefl _)
      · cases hmem
    · show Value.bool _ = Value.bool _
      rw [← any_rangeF xs, List.size_toArray, ← Paired.length rv]
  · obtain ⟨its, rv, hl, _⟩ := I.tuple hs
    have hne : a ≠ s.heap.objs.size := by
      obtain ⟨o, h1, _⟩ := hl
      exact Nat.ne_of_lt (Heap.lt_size h1)
    refine call_any_walk (iter_tuple hl ?_)
    refine ⟨s.heap.objs.size, [s.heap.objs.size, a], [s.heap.objs.size], its.toArray.size, (fun i v => its.toArray[i]? = some v), (fun i h => Heap.IsTupleIter h s.heap.objs.size a i ∧ Heap.IsTuple h a its.toArray), _, rfl, Walks.tuple (A := X.A.in1) (I.ok.hd hc) _ a hne its.toArray, ⟨⟨_, Heap.get?_push_size _ rfl, rfl, rfl⟩, ?_⟩, truth_flat rv hf, fun h' tk hk => ?_⟩
    · obtain ⟨o, h1, h2⟩ := hl
      exact ⟨o, Heap.get?_push_of_some _ h1, h2⟩
    refine ⟨.bl (xs.any truF), H, I.kept fun b o eo => hk b o (fun hmem => ?_) (Heap.get?_push_of_some _ eo), ?_, q⟩
    · rcases List.mem_cons.mp hmem with e1 | hmem
      · exact absurd (e1 ▸ Heap.lt_size eo) (Nat.lt_irrefl _)
      · cases hmem
    · show Value.bool _ = Value.bool _
      rw [← any_rangeF xs, List.size_toArray, ← Paired.length rv]
end Mir
set_option Elab.async false
set_option linter.all false
set_option maxRecDepth 100000
namespace Mir
open PySem PySem.Spec PyProof.Rows L2
variable [Nm]
/-! ### what is walked, with its data -/
structure Wk {α : Type} (J : It) (xs : List α) (G : Hp → Prop) (r : Rp α) (H0 : Hp) : Prop where
  w : ∃ Y, Walk J xs.length G Y ∧ ∀ (A : List Addr) i H v H', Gr A H0 H → i < xs.length → Y i H v H' → ∃ x, xs[i]? = some x ∧ Gr [] H H' ∧ r H' x v
section
variable {α β : Type} {K : PySem.W.Frag} {r : Rp α} {s : Rp β} {H0 : Hp} {a b : Addr} {xs : List α} {ys : List β} {vs ws : List V}
theorem Paired.get1 {q : α → V → Prop} (hp : Paired q xs vs) {i : Nat} {v : V} (e : vs[i]? = some v) : ∃ x, xs[i]? = some x ∧ q x v := by
  have hi := (List.getElem?_eq_some_iff.mp e).1
  have hi' : i < xs.length := by rw [Paired.length hp]; exact hi
  exact ⟨xs[i], List.getElem?_eq_getElem hi', Paired.get2 hp e hi'⟩
theorem wk_lst [Imm r] (hp : Paired (r H0) xs vs) : Wk (Itl K a) xs (fun H => SqL K H a vs) r H0 := ⟨YAt vs, by rw [Paired.length hp]; exact walk_list, fun A i H v H' g hi ⟨e, ev⟩ => by
  obtain ⟨x, hx, hr⟩ := Paired.get1 hp ev
  exact ⟨x, hx, by rw [e]; exact Gr.refl _, by rw [e]; exact Imm.mono g hr⟩⟩
theorem wk_tup [Imm r] (hp : Paired (r H0) xs vs) : Wk (Itt K a) xs (fun H => SqT K H a vs) r H0 := ⟨YAt vs, by rw [Paired.length hp]; exact walk_tup, fun A i H v H' g hi ⟨e, ev⟩ => by
  obtain ⟨x, hx, hr⟩ := Paired.get1 hp ev
  exact ⟨x, hx, by rw [e]; exact Gr.refl _, by rw [e]; exact Imm.mono g hr⟩⟩
theorem wk_rng {lo : Int} {n : Nat} : Wk (Itr lo n) (rng lo n) (fun _ => True) rI H0 := ⟨YFn fun i => V.int (lo + (i : Nat)), by rw [rng_length]; exact walk_range, fun A i H v H' g hi ⟨e, ev⟩ =>
  ⟨lo + i, by rw [List.getElem?_eq_getElem hi, rng_get], by rw [e]; exact Gr.refl _, ev⟩⟩
def rngC (lo c : Int) : Nat → List Int
  | 0 => []
  | n + 1 => lo :: rngC (lo + c) c n
theorem rngC_length (lo c : Int) (n : Nat) : (rngC lo c n).length = n := by
  induction n generalizing lo with
  | zero => rfl
  | succ n ih => exact congrArg Nat.succ (ih (lo + c))
theorem rngC_get (lo c : Int) (n i : Nat) (h : i < n) : (rngC lo c n)[i]? = some (lo + (i : Nat) * c) := by
  induction n generalizing lo i with
  | zero => omega
  | succ n ih =>
    cases i with
    | zero => show some lo = _; simp
    | succ i =>
      show (rngC (lo + c) c n)[i]? = _
      rw [ih (lo + c) i (by omega)]
      congr 1
      have : ((i + 1 : Nat) : Int) * c = (i : Int) * c + c := by rw [Int.natCast_add, Int.add_mul]; simp
      omega
theorem wk_rngC {lo c : Int} {n : Nat} : Wk (Itc lo c n) (rngC lo c n) (fun _ => True) rI H0 := ⟨YFn fun i => V.int (lo + (i : Nat) * c), by rw [rngC_length]; exact walk_rangeC, fun A i H v H' g hi ⟨e, ev⟩ =>
  ⟨lo + (i : Nat) * c, rngC_get lo c n i (by rwa [rngC_length] at hi), by rw [e]; exact Gr.refl _, ev⟩⟩
def enumF (xs : List α) : List (Int × α) := (rng 0 xs.length).zip xs
theorem zip_get {i : Nat} {x : α} {y : β} (h1 : xs[i]? = some x) (h2 : ys[i]? = some y) : (xs.zip ys)[i]? = some (x, y) := by
  rw [List.getElem?_zip_eq_some]
  exact ⟨h1, h2⟩
theorem wk_enum [Imm r] (hp : Paired (r H0) xs vs) : Wk (Ite K a) (enumF xs) (fun H => SqL K H a vs) (rP K rI r) H0 := ⟨_, by rw [enumF, List.length_zip, rng_length, Nat.min_self, Paired.length hp]; exact walk_enum, fun A i H v H' g hi h => by
  obtain ⟨T, x, y, rfl, hn, rfl, ex, ey⟩ := h
  cases ex
  obtain ⟨z, hz, hr⟩ := Paired.get1 hp ey
  have hi' : i < (rng 0 xs.length).length := by
    rw [enumF, List.length_zip] at hi
    exact Nat.lt_of_lt_of_le hi (Nat.min_le_left _ _)
  refine ⟨((i : Nat), z), zip_get (by rw [List.getElem?_eq_getElem hi', rng_get]; congr 1; omega) hz, Gr.new hn, T, .int (i : Nat), y, rfl, SqT.of upd_same, rfl, Imm.mono (g.of0' (Gr.new hn)) hr⟩⟩
theorem wk_zip [Imm r] [Imm s] (hp : Paired (r H0) xs vs) (hq : Paired (s H0) ys ws) : Wk (Itz K a b) (xs.zip ys) (fun H => SqL K H a vs ∧ SqL K H b ws) (rP K r s) H0 := ⟨_, by rw [List.length_zip]; exact walk_zip (by rw [Paired.length hp, Paired.length hq]), fun A i H v H' g hi h => by
  obtain ⟨T, x, y, rfl, hn, rfl, ex, ey⟩ := h
  obtain ⟨z, hz, hr⟩ := Paired.get1 hp ex
  obtain ⟨u, hu, hs⟩ := Paired.get1 hq ey
  exact ⟨(z, u), zip_get hz hu, Gr.new hn, T, x, y, rfl, SqT.of upd_same, Imm.mono (g.of0' (Gr.new hn)) hr, Imm.mono (g.of0' (Gr.new hn)) hs⟩⟩
theorem walk_zipT : Walk (RZ.ItzT K a b) (min vs.length ws.length) (fun H => SqT K H a vs ∧ SqT K H b ws) (YPair (fun i => vs[i]?) fun i => ws[i]?) := by
  refine ⟨fun i H hi ⟨h1, h2⟩ => ?_, fun H ⟨h1, h2⟩ => ?_, fun i H x H' hi ⟨h1, h2⟩ h => ?_⟩
  · exact ⟨vs, ws, vs[i]'(by omega), ws[i]'(by omega), h1, h2, by simp [List.getElem?_eq_getElem (show i < vs.length by omega)], by simp [List.getElem?_eq_getElem (show i < ws.length by omega)]⟩
  · exact ⟨vs, ws, h1, h2, by omega⟩
  · obtain ⟨T, x, y, rfl, hn, rfl, ex, ey⟩ := h
    exact ⟨T, x, y, rfl, hn, rfl, ex vs h1, ey ws h2⟩
theorem wk_zipT [Imm r] [Imm s] (hp : Paired (r H0) xs vs) (hq : Paired (s H0) ys ws) : Wk (RZ.ItzT K a b) (xs.zip ys) (fun H => SqT K H a vs ∧ SqT K H b ws) (rP K r s) H0 := ⟨_, by rw [List.length_zip, Paired.length hp, Paired.length hq]; exact walk_zipT, fun A i H v H' g hi h => by
  obtain ⟨T, x, y, rfl, hn, rfl, ex, ey⟩ := h
  obtain ⟨z, hz, hr⟩ := Paired.get1 hp ex
  obtain ⟨u, hu, hs⟩ := Paired.get1 hq ey
  exact ⟨(z, u), zip_get hz hu, Gr.new hn, T, x, y, rfl, SqT.of upd_same, Imm.mono (g.of0' (Gr.new hn)) hr, Imm.mono (g.of0' (Gr.new hn)) hs⟩⟩
end
section
variable {α σt ρ : Type} {r : Rp α} {J : It} {G : Hp → Prop} {xs : List α} {H0 H : Hp} {g : TG} {tb : TS} {D : Ends} {σ : L2.St} {s0 : σt} {E : Er → Prop}
theorem for_R (w : Wk J xs G r H0) {f : σt → α → R σt} (rel : σt → L2.St → Hp → Prop)
    (hm : wp (foldR f s0 xs) (fun s => ∀ σ H, rel s σ H → D.nx σ H) E) (h0 : rel s0 σ H) (hG : ∀ s σ H, rel s σ H → G H ∧ ∃ A, Gr A H0 H)
    (hs : ∀ (x : α) (v : V) (s : σt) (σ : L2.St) (H H' : Hp) (N : L2.St → Hp → Prop), rel s σ H → Gr [] H H' → r H' x v → wp (f s x) (fun s' => ∀ σ' H', rel s' σ' H' → N σ' H') E →
      g v σ H' fun σ2 H2 => tb { D with nx := N, ct := N, bk := D.nx } σ2 H2) :
    ∃ W : Nat → Nat → L2.St → Hp → Prop, (∃ m, W 0 m σ H) ∧ ∀ i m σ H, W i m σ H →
      (J.stop i H ∧ D.nx σ H) ∨ (J.go i H ∧ ∃ N : L2.St → Hp → Prop, (∀ σ' H', N σ' H' → ∃ m', m' < m ∧ W (i + 1) m' σ' H') ∧ ∀ x H', J.yld i H x H' → g x σ H' fun σ2 H2 => tb { D with nx := N, ct := N, bk := D.nx } σ2 H2) := by
  obtain ⟨Y, wa, hy⟩ := w
  refine for_it wa (fun i σ H => ∃ s, rel s σ H ∧ wp (foldR f s (xs.drop i)) (fun s => ∀ σ H, rel s σ H → D.nx σ H) E) ⟨s0, h0, hm⟩ (fun i σ H _ ⟨s, hr, _⟩ => (hG s σ H hr).1) ?_ ?_
  · rintro i v σ H H' hi ⟨s, hr, hw⟩ y
    obtain ⟨A, ga⟩ := (hG s σ H hr).2
    obtain ⟨x, hx, g', hv⟩ := hy A i H v H' ga hi y
    have hw := foldR_step hi hw
    have e : xs[i] = x := by rw [List.getElem?_eq_getElem hi] at hx; exact Option.some.inj hx
    rw [e] at hw
    exact hs x v s σ H H' _ hr g' hv (wp_imp hw (fun s' hs' => fun σ' H' r' => ⟨s', r', hs'⟩) fun _ e => e)
  · rintro σ H ⟨s, hr, hw⟩
    exact foldR_end (Nat.le_refl _) hw σ H hr
theorem for_L (w : Wk J xs G r H0) {f : σt → α → R (Lp σt ρ)} {RT : ρ → Prop} (rel : σt → L2.St → Hp → Prop)
    (hm : wp (loopR f s0 xs) (leP (fun s => ∀ σ H, rel s σ H → D.nx σ H) RT) E) (h0 : rel s0 σ H) (hG : ∀ s σ H, rel s σ H → G H ∧ ∃ A, Gr A H0 H)
    (hs : ∀ (x : α) (v : V) (s : σt) (σ : L2.St) (H H' : Hp) (N : L2.St → Hp → Prop), rel s σ H → Gr [] H H' → r H' x v → wp (f s x) (lpP (fun s' => ∀ σ' H', rel s' σ' H' → N σ' H') (fun s' => ∀ σ' H', rel s' σ' H' → D.nx σ' H') RT) E →
      g v σ H' fun σ2 H2 => tb { D with nx := N, ct := N, bk := D.nx } σ2 H2) :
    ∃ W : Nat → Nat → L2.St → Hp → Prop, (∃ m, W 0 m σ H) ∧ ∀ i m σ H, W i m σ H →
      (J.stop i H ∧ D.nx σ H) ∨ (J.go i H ∧ ∃ N : L2.St → Hp → Prop, (∀ σ' H', N σ' H' → ∃ m', m' < m ∧ W (i + 1) m' σ' H') ∧ ∀ x H', J.yld i H x H' → g x σ H' fun σ2 H2 => tb { D with nx := N, ct := N, bk := D.nx } σ2 H2) := by
  obtain ⟨Y, wa, hy⟩ := w
  refine for_it wa (fun i σ H => ∃ s, rel s σ H ∧ wp (loopR f s (xs.drop i)) (leP (fun s => ∀ σ H, rel s σ H → D.nx σ H) RT) E) ⟨s0, h0, hm⟩ (fun i σ H _ ⟨s, hr, _⟩ => (hG s σ H hr).1) ?_ ?_
  · rintro i v σ H H' hi ⟨s, hr, hw⟩ y
    obtain ⟨A, ga⟩ := (hG s σ H hr).2
    obtain ⟨x, hx, g', hv⟩ := hy A i H v H' ga hi y
    have hw := loopR_step hi hw
    have e : xs[i] = x := by rw [List.getElem?_eq_getElem hi] at hx; exact Option.some.inj hx
    rw [e] at hw
    exact hs x v s σ H H' _ hr g' hv (wp_imp hw (fun s' hs' => (by
      cases s' with
      | nx s' => exact fun σ' H' r' => ⟨s', r', hs'⟩
      | bk s' => exact hs'
      | rt r => exact hs')) fun _ e => e)
  · rintro σ H ⟨s, hr, hw⟩
    exact loopR_end (Nat.le_refl _) hw σ H hr
theorem lc_R (w : Wk J xs G r H0) {f : σt → α → R σt} {Z : σt → Prop} {tt : TT} {te : TE} {own : List Nat} {H1 : Hp} {D : Addr} {Qd : Hp → Prop} (rel : σt → Hp → Prop)
    (hm : wp (foldR f s0 xs) Z E) (h0 : rel s0 (upd H1 D (.lst []))) (hG : ∀ s H, rel s H → G H ∧ ∃ A, Gr A H0 H)
    (hs : ∀ (x : α) (v : V) (s : σt) (H H' : Hp) (Nx : Hp → Prop), rel s H → Gr [] H H' → r H' x v → wp (f s x) (fun s' => ∀ H', rel s' H' → Nx H') E →
      g v (wipe σ own) H' fun σ2 H2 => wipe σ2 own = wipe σ own ∧ tt σ2 H2 fun b H3 => if b = true then te σ2 H3 fun y H4 => ∃ acc, H4 D = some (.lst acc) ∧ acc.length < sizeLine ∧ Nx (upd H4 D (.lst (acc ++ [y]))) else Nx H3)
    (hd : ∀ s H, rel s H → Z s → Qd H) :
    ∃ W : Nat → Nat → Hp → Prop, (∃ m, W 0 m (upd H1 D (.lst []))) ∧ ∀ i m H, W i m H →
      (J.stop i H ∧ Qd H) ∨ (J.go i H ∧ ∃ Nx : Hp → Prop, (∀ H', Nx H' → ∃ m', m' < m ∧ W (i + 1) m' H') ∧ ∀ x H', J.yld i H x H' → g x (wipe σ own) H' fun σ2 H2 => wipe σ2 own = wipe σ own ∧ tt σ2 H2 fun b H3 =>
        if b = true then te σ2 H3 fun y H4 => ∃ acc, H4 D = some (.lst acc) ∧ acc.length < sizeLine ∧ Nx (upd H4 D (.lst (acc ++ [y]))) else Nx H3) := by
  obtain ⟨Y, wa, hy⟩ := w
  refine lc_it wa (fun i H => ∃ s, rel s H ∧ wp (foldR f s (xs.drop i)) Z E) ⟨s0, h0, hm⟩ (fun i H _ ⟨s, hr, _⟩ => (hG s H hr).1) ?_ ?_
  · rintro i v H H' hi ⟨s, hr, hw⟩ y
    obtain ⟨A, ga⟩ := (hG s H hr).2
    obtain ⟨x, hx, g', hv⟩ := hy A i H v H' ga hi y
    have hw := foldR_step hi hw
    have e : xs[i] = x := by rw [List.getElem?_eq_getElem hi] at hx; exact Option.some.inj hx
    rw [e] at hw
    exact hs x v s H H' _ hr g' hv (wp_imp hw (fun s' hs' => fun H' r' => ⟨s', r', hs'⟩) fun _ e => e)
  · rintro H ⟨s, hr, hw⟩
    exact hd s H hr (foldR_end (Nat.le_refl _) hw)
end
end Mir
namespace Mir
open PySem PySem.Spec PyProof.Rows L2
variable [Nm]
section
variable {K : PySem.W.Frag} {σ : L2.St} {H : Hp} {l : TA} {R : It → Hp → Prop}
theorem rd_gtE {n : Nat} {g : TGs} {a : Addr} {u : V} {xs : List V} {Q : L2.St → Hp → Prop} (eu : u = .ref a) (h : SqT K H a xs) (e : xs.length = n) (q : g xs σ H Q) : gTup K n g u σ H Q := ⟨a, xs, eu, h, e, q⟩
theorem rd_r3 (h : l σ H fun vs H1 => ∃ i j c n, vs = [.int i, .int j, .int c] ∧ RgC i j c n ∧ R (Itc i c n) H1) : iRng3 l σ H R := h
def zipA (K : PySem.W.Frag) (R : It → Hp → Prop) (vs : List V) (H1 : Hp) : Prop := ∃ a b xs ys, vs = [.ref a, .ref b] ∧ ((SqL K H1 a xs ∧ SqL K H1 b ys ∧ R (Itz K a b) H1) ∨ (SqT K H1 a xs ∧ SqT K H1 b ys ∧ R (RZ.ItzT K a b) H1))
theorem rd_izip (h : l σ H (zipA K R)) : RZ.iZipA K l σ H R := h
def enumA (K : PySem.W.Frag) (R : It → Hp → Prop) (vs : List V) (H1 : Hp) : Prop := ∃ a xs, vs = [.ref a] ∧ SqL K H1 a xs ∧ R (Ite K a) H1
theorem rd_ienumerate (h : l σ H (enumA K R)) : iEnum K l σ H R := h
theorem zip_l {u v : V} {a b : Addr} {xs ys : List V} (e1 : u = .ref a) (e2 : v = .ref b) (h1 : SqL K H a xs) (h2 : SqL K H b ys) (h : R (Itz K a b) H) : zipA K R [u, v] H := ⟨a, b, xs, ys, by rw [e1, e2], .inl ⟨h1, h2, h⟩⟩
theorem zip_t {u v : V} {a b : Addr} {xs ys : List V} (e1 : u = .ref a) (e2 : v = .ref b) (h1 : SqT K H a xs) (h2 : SqT K H b ys) (h : R (RZ.ItzT K a b) H) : zipA K R [u, v] H := ⟨a, b, xs, ys, by rw [e1, e2], .inr ⟨h1, h2, h⟩⟩
theorem enum_l {a : Addr} {xs : List V} (h1 : SqL K H a xs) (h : R (Ite K a) H) : enumA K R [.ref a] H := ⟨a, xs, rfl, h1, h⟩
end
/-- the turns of a range with a step -/
def rg3n (i j c : Int) : Nat := (Builtin.Range.rangeSize i j c).toNat
def rg3Ok (i j c : Int) : Prop := c ≠ 0 ∧ c.natAbs < 1073741824 ∧ Builtin.Range.small i j c = true ∧ 0 ≤ Builtin.Range.rangeSize i j c
instance (i j c : Int) : Decidable (rg3Ok i j c) := inferInstanceAs (Decidable (_ ∧ _))
theorem rg3_of {i j c : Int} (h : rg3Ok i j c) : RgC i j c (rg3n i j c) := ⟨h.1, h.2.1, h.2.2.1, by unfold rg3n; have := h.2.2.2; omega⟩
section
variable {α β γ : Type} {K : PySem.W.Frag} {r : Rp α} {s : Rp β} {t : Rp γ} {H : Hp} {a : Addr} {v : V} {i : Int} {Q : VK} {E : Er → Prop} {xs : List α}
theorem ix_P20 {x : α × β} (h : rP K r s H x v) (e : ixN 2 i = some 0) (q : ∀ w, r H x.1 w → Q w H) : rIxT K v (.int i) H Q := by
  obtain ⟨a, y, z, rfl, h1, h2, h3⟩ := h

  exact ⟨a, [y, z], i, y, rfl, rfl, h1, by show (ixN 2 i).bind _ = _; rw [e]; rfl, q y h2⟩
theorem rP2_T {r : Rp α} {x : α × α} (h : rP K r r H x v) : rT K r H [x.1, x.2] v := by
  obtain ⟨a, y, z, rfl, h1, h2, h3⟩ := h
  exact ⟨a, rfl, [y, z], h1, .cons h2 (.cons h3 .nil)⟩
theorem rP3_T {r : Rp α} {x : α × α × α} (h : rP3 K r r r H x v) : rT K r H [x.1, x.2.1, x.2.2] v := by
  obtain ⟨a, y, z, u, rfl, h1, h2, h3, h4⟩ := h
  exact ⟨a, rfl, [y, z, u], h1, .cons h2 (.cons h3 (.cons h4 .nil))⟩
/-- an item of a pair, of three, by a written place -/
theorem ix_P2 {x : α × β} {P : V → Prop} (j : Nat) (h : rP K r s H x v) (e : ixN 2 i = some j) (hp : ∀ (a : Addr) (y z : V), r H x.1 y → s H x.2 z → ∃ w, [y, z][j]? = some w ∧ P w) (q : ∀ w, P w → Q w H) : rIxT K v (.int i) H Q := by
  obtain ⟨a, y, z, rfl, h1, h2, h3⟩ := h
  obtain ⟨w, hw, pw⟩ := hp a y z h2 h3
  exact ⟨a, [y, z], i, w, rfl, rfl, h1, by show (ixN 2 i).bind _ = _; rw [e]; exact hw, q w pw⟩
theorem ix_P3 {x : α × β × γ} {P : V → Prop} (j : Nat) (h : rP3 K r s t H x v) (e : ixN 3 i = some j) (hp : ∀ (a : Addr) (y z u : V), r H x.1 y → s H x.2.1 z → t H x.2.2 u → ∃ w, [y, z, u][j]? = some w ∧ P w) (q : ∀ w, P w → Q w H) : rIxT K v (.int i) H Q := by
  obtain ⟨a, y, z, u, rfl, h1, h2, h3, h4⟩ := h
  obtain ⟨w, hw, pw⟩ := hp a y z u h2 h3 h4
  exact ⟨a, [y, z, u], i, w, rfl, rfl, h1, by show (ixN 3 i).bind _ = _; rw [e]; exact hw, q w pw⟩
theorem ix_P21 {x : α × β} (h : rP K r s H x v) (e : ixN 2 i = some 1) (q : ∀ w, s H x.2 w → Q w H) : rIxT K v (.int i) H Q := ix_P2 1 h e (fun _ y z _ h => ⟨z, rfl, h⟩) q
theorem ix_P30 {x : α × β × γ} (h : rP3 K r s t H x v) (e : ixN 3 i = some 0) (q : ∀ w, r H x.1 w → Q w H) : rIxT K v (.int i) H Q := ix_P3 0 h e (fun _ y z u h _ _ => ⟨y, rfl, h⟩) q
theorem ix_P31 {x : α × β × γ} (h : rP3 K r s t H x v) (e : ixN 3 i = some 1) (q : ∀ w, s H x.2.1 w → Q w H) : rIxT K v (.int i) H Q := ix_P3 1 h e (fun _ y z u _ h _ => ⟨z, rfl, h⟩) q
theorem ix_P32 {x : α × β × γ} (h : rP3 K r s t H x v) (e : ixN 3 i = some 2) (q : ∀ w, t H x.2.2 w → Q w H) : rIxT K v (.int i) H Q := ix_P3 2 h e (fun _ y z u _ _ h => ⟨u, rfl, h⟩) q
/-- the last item taken away -/
def popL (xs : List α) : R (α × List α) := match xs[xs.length - 1]? with
  | some x => .ok (x, xs.dropLast)
  | none => .out
def popAtL (xs : List α) (i : Int) : R (α × List α) := if -(2 ^ 63) ≤ i ∧ i < 2 ^ 63 then match seqIndex? i xs.length with
  | some k => match xs[k]? with
    | some x => .ok (x, xs.eraseIdx k)
    | none => .out
  | none => .out else .out
theorem Paired.dropLast {q : α → V → Prop} : ∀ {xs : List α} {vs : List V}, Paired q xs vs → Paired q xs.dropLast vs.dropLast
  | _, _, .nil => .nil
  | _, _, .cons _ .nil => .nil
  | _, _, .cons h (.cons h2 t) => .cons h (Paired.dropLast (.cons h2 t))
theorem Paired.erase {q : α → V → Prop} : ∀ {xs : List α} {vs : List V} (k : Nat), Paired q xs vs → Paired q (xs.eraseIdx k) (vs.eraseIdx k)
  | _, _, _, .nil => .nil
  | _, _, 0, .cons _ t => t
  | _, _, k + 1, .cons h t => .cons h (Paired.erase k t)
theorem rd_pop [Imm r] {Z : α × List α → Prop} (h : Ls r H a xs) (hm : wp (popL xs) Z E) (q : ∀ (t : α × List α) w H', Gr [a] H H' → Ls r H' a t.2 → r H' t.1 w → Z t → Q w H') : rPop (.ref a) [] H Q := by
  obtain ⟨vs, h1, h2⟩ := h
  unfold popL at hm
  cases e : xs[xs.length - 1]? with
  | none =>
    rw [e] at hm
    exact hm.elim
  | some x =>
    rw [e] at hm
    obtain ⟨w, hw, hr⟩ := Paired.at h2 e
    rw [Paired.length h2] at hw
    exact ⟨a, vs, w, rfl, rfl, h1, hw, q (x, xs.dropLast) w _ (Gr.set h1) ⟨_, upd_same, Paired.imm (Gr.set h1) (Paired.dropLast h2)⟩ (Imm.mono (Gr.set h1) hr) hm⟩
theorem rd_popAt [Imm r] {Z : α × List α → Prop} (h : Ls r H a xs) (hm : wp (popAtL xs i) Z E) (q : ∀ (t : α × List α) w H', Gr [a] H H' → Ls r H' a t.2 → r H' t.1 w → Z t → Q w H') : rPopAt (.ref a) [.int i] H Q := by
  obtain ⟨vs, h1, h2⟩ := h
  unfold popAtL at hm
  by_cases b : -(2 ^ 63) ≤ i ∧ i < 2 ^ 63
  · rw [if_pos b] at hm
    cases e : seqIndex? i xs.length with
    | none =>
      rw [e] at hm
      exact hm.elim
    | some k =>
      rw [e] at hm
      cases e2 : xs[k]? with
      | none =>
        simp only [e2] at hm
        exact hm.elim
      | some x =>
        simp only [e2] at hm
        obtain ⟨w, hw, hr⟩ := Paired.at h2 e2
        exact ⟨a, vs, i, k, w, rfl, rfl, h1, b.1, b.2, by rw [← Paired.length h2]; exact e, hw, q (x, xs.eraseIdx k) w _ (Gr.set h1) ⟨_, upd_same, Paired.imm (Gr.set h1) (Paired.erase k h2)⟩ (Imm.mono (Gr.set h1) hr) hm⟩
  · rw [if_neg b] at hm
    exact hm.elim
theorem any_ints {ns : List Int} : (ns.map V.int).any truF = ns.any fun n => n != 0 := by
  induction ns with
  | nil => rfl
  | cons n ns ih => show (truF (V.int n) || _) = _; rw [ih]; rfl
theorem any_bls {bs : List Bool} : (bs.map V.bl).any truF = bs.any id := by
  induction bs with
  | nil => rfl
  | cons n ns ih => show (truF (V.bl n) || _) = _; rw [ih]; rfl
theorem bls_of {ns : List Bool} {vs : List V} (h : Paired (rB H) ns vs) : vs = ns.map V.bl := by
  induction h with
  | nil => rfl
  | cons h _ ih => rw [ih, show _ = V.bl _ from h] <;> rfl
theorem flat_ints {ns : List Int} : ∀ x ∈ ns.map V.int, isF x = true := fun x h => by
  obtain ⟨n, _, rfl⟩ := List.mem_map.mp h
  rfl
theorem flat_bls {ns : List Bool} : ∀ x ∈ ns.map V.bl, isF x = true := fun x h => by
  obtain ⟨n, _, rfl⟩ := List.mem_map.mp h
  rfl
theorem any_LI {ns : List Int} (h : Lq K rI H a ns) (q : Q (.bl (ns.any fun n => n != 0)) H) : ap3 (rAnyF K) [.ref a] H Q := by
  obtain ⟨vs, h1, h2⟩ := h
  obtain rfl := ints_of h2
  exact ⟨a, _, rfl, .inl h1, flat_ints, any_ints ▸ q⟩
theorem any_LB {ns : List Bool} (h : Lq K rB H a ns) (q : Q (.bl (ns.any id)) H) : ap3 (rAnyF K) [.ref a] H Q := by
  obtain ⟨vs, h1, h2⟩ := h
  obtain rfl := bls_of h2
  exact ⟨a, _, rfl, .inl h1, flat_bls, any_bls ▸ q⟩
theorem any_TI {ns : List Int} (h : rT K rI H ns v) (q : Q (.bl (ns.any fun n => n != 0)) H) : ap3 (rAnyF K) [v] H Q := by
  obtain ⟨a, rfl, vs, h1, h2⟩ := h
  obtain rfl := ints_of h2
  exact ⟨a, _, rfl, .inr h1, flat_ints, any_ints ▸ q⟩
theorem any_TB {ns : List Bool} (h : rT K rB H ns v) (q : Q (.bl (ns.any id)) H) : ap3 (rAnyF K) [v] H Q := by
  obtain ⟨a, rfl, vs, h1, h2⟩ := h
  obtain rfl := bls_of h2
  exact ⟨a, _, rfl, .inr h1, flat_bls, any_bls ▸ q⟩
end
end Mir
namespace Mir
open PySem PySem.Spec PyProof.Rows L2
variable [Nm]
/-! ### rules whose reading names the frozen part: it is told -/
section
variable {X : Cx} {K : PySem.W.Frag}
theorem ix_listK (e : X.K = K) : IxR X (rIxL K) := e ▸ ix_list
theorem ix_tupK (e : X.K = K) : IxR X (rIxT K) := e ▸ ix_tup
theorem sl_listK (e : X.K = K) : SlR X (rSlL K) := e ▸ sl_list
theorem sl_tupK (e : X.K = K) : SlR X (rSlT K) := e ▸ sl_tup
theorem sortedIK (e : X.K = K) : CallR X (.builtin "sorted") (rSortedI K) := e ▸ cr_sortedI
theorem anyFK (hc : X.calm = true) (e : X.K = K) : CallR X (.builtin "any") (rAnyF K) := e ▸ cr_anyF hc
theorem isiK (e : X.K = K) : CallR X (.builtin "isinstance") (rIsi K) := e ▸ call_isi
theorem catTK (e : X.K = K) : OpR X (binaryOp .Add) (rCatT K) := e ▸ op_catT
theorem inK (e : X.K = K) : OpR X (compareOp .In) (rIn K false) := e ▸ op_in_seq
theorem notInK (e : X.K = K) : OpR X (compareOp .NotIn) (rIn K true) := e ▸ op_notIn_seq
theorem eqDK (h : X.A.units + 64 < cLine) (e : X.K = K) : OpR X (compareOp .Eq) (rEqD K) := e ▸ op_eqD h
theorem neDK (h : X.A.units + 64 < cLine) (e : X.K = K) : OpR X (compareOp .NotEq) (rNeD K) := e ▸ op_neD h
theorem lenK (e : X.K = K) : CallR X (.builtin "len") (fun xs H Q => ∃ p ys, xs = [.ref p] ∧ (SqL K H p ys ∨ SqT K H p ys) ∧ Q (.int ys.length) H) := e ▸ call_len_seq
theorem tupleK (e : X.K = K) : CallR X (.type "tuple") (fun xs H Q => ∃ p ys, xs = [.ref p] ∧ ((SqL K H p ys ∧ ∀ l : Addr, H l = none → Q (.ref l) (upd H l (.tup ys))) ∨ SqT K H p ys ∧ Q (.ref p) H)) := e ▸ call_tuple_of
theorem listK (e : X.K = K) : CallR X (.type "list") (fun xs H Q => ∃ p ys, xs = [.ref p] ∧ (SqL K H p ys ∨ SqT K H p ys) ∧ ∀ l : Addr, H l = none → Q (.ref l) (upd H l (.lst ys))) := e ▸ call_list_of
end
end Mir
namespace Mir
open PySem PySem.Spec PyProof.Rows L2
variable [Nm]
section
variable {X : Cx} {K : PySem.W.Frag}
theorem pi_listK {tg l : Expr} {tl : TE} (h : PE X l tl) (e : X.K = K) : PI X tg l (iList K tl) := e ▸ pi_list h
theorem pi_tupK {tg l : Expr} {tl : TE} (h : PE X l tl) (e : X.K = K) : PI X tg l (iTup K tl) := e ▸ pi_tup h
theorem pi_zipK {e1 e2 : Expr} {ta : TA} {p pos tpos : Pos} {elts : List Expr} {kk : Nat} (hg : Gl X "zip") (hm : X.mg "zip" = none) (ha : PA X [e1, e2] ta) (e : X.K = K)
    (he : starEach [e1, e2] X.env = (false, eval e1 X.env) :: starEach [e2] X.env := by rfl) (hpl : (backTo pos (starEach [e2] X.env)).any (·.1) = false := by rfl) :
    PI X (.Tuple elts kk tpos) (.Call (.Name "zip" p) [e1, e2] [] pos) (RZ.iZipA K ta) := e ▸ RZ.pi_zipA hg hm ha he hpl
theorem pi_enumK {e1 : Expr} {ta : TA} {p pos tpos : Pos} {elts : List Expr} {kk : Nat} (hg : Gl X "enumerate") (hm : X.mg "enumerate" = none) (ha : PA X [e1] ta) (e : X.K = K)
    (he : starEach [e1] X.env = [(false, eval e1 X.env)] := by rfl) :
    PI X (.Tuple elts kk tpos) (.Call (.Name "enumerate" p) [e1] [] pos) (iEnum K ta) := e ▸ pi_enum hg hm ha he
end
end Mir
namespace Mir
open PySem PySem.Spec PyProof.Rows L2
variable [Nm]
theorem ne_of_st {α : Type} {r : Rp α} {A : List Addr} {q v : Addr} {H : Hp} {xs : List α} (st : q ∈ A ∨ H q = none) (n : v ∉ A) (h : Ls r H v xs) : v ≠ q := fun e => st.elim (fun m => n (e ▸ m)) fun z => h.ne z e
end Mir
namespace Mir
open PySem PySem.Spec PyProof.Rows L2
variable [Nm]
/-! ### a list that is put into something stands still from then on -/
def tFrz (t : TE) : TE := fun σ H Q => t σ H fun v H1 => ∃ a u, v = .ref a ∧ H1 a = some u ∧ Mut (some u) ∧ ∀ od, Q v (upd H1 a (.frz od u))
theorem pe_frz {X : Cx} {e : Expr} {t : TE} (h : PE X e t) : PE X e (tFrz t) := ⟨fun pins s σ H Q I hw => thn (h.run pins s σ H _ I hw) fun v s1 hh => by
  obtain ⟨x, H1, I1, r, a, u, rfl, ha, mu, q⟩ := hh
  obtain ⟨od, I2⟩ := I1.lock ha mu
  exact ⟨.ref a, _, I2, r, q od⟩⟩
section
variable {α : Type} {K : PySem.W.Frag} {r : Rp α} {H H' : Hp} {a b : Addr} {xs : List α} {vs : List V} {v : V} {Q : VK}
/-- a list that stands still -/
def rZ (r : Rp α) : Rp (List α) := fun H xs v => ∃ a o vs, v = .ref a ∧ H a = some (.frz o (.lst vs)) ∧ Paired (r H) xs vs
instance [Imm r] : Imm (rZ r) := ⟨fun g ⟨a, o, vs, e, h, h2⟩ => ⟨a, o, vs, e, g _ _ h rfl, Paired.im g h2⟩⟩
theorem rZ_q (h : rZ r H xs v) : ∃ a, v = .ref a ∧ Lq K r H a xs := let ⟨a, o, vs, e, h1, h2⟩ := h; ⟨a, e, vs, .inl (.inr ⟨o, h1⟩), h2⟩
theorem Im.frz {o : Obj} {u : HO} (h : H a = some u) (k : kd u ≠ 0) : Im H (upd H a (.frz o u)) := fun b w q z => by
  by_cases e : b = a
  · subst e
    rw [h] at q
    cases q
    exact absurd z k
  · rw [upd_ne e]
    exact q
/-- what the freezing of the list at a leaves of the rest -/
structure Fz (a : Addr) (H H' : Hp) : Prop where
  im : Im H H'
  ne : ∀ b o, b ≠ a → H b = some o → H' b = some o
  at_ : H' a ≠ none
def frzA (Q : VK) (v : V) (H1 : Hp) : Prop := ∃ b u, v = .ref b ∧ H1 b = some u ∧ Mut (some u) ∧ ∀ od, Q v (upd H1 b (.frz od u))
/-- the form that a printed text uses: the value is a list of its own at hand -/
theorem fz_L [Imm r] (h : Ls r H a xs) (q : ∀ H2, Fz a H H2 → rZ r H2 xs (.ref a) → Q (.ref a) H2) : frzA Q (.ref a) H := by
  obtain ⟨vs, h1, h2⟩ := h
  have g : ∀ od, Im H (upd H a (.frz od (.lst vs))) := fun od => Im.frz h1 (by show 1 ≠ 0; decide)
  exact ⟨a, _, rfl, h1, trivial, fun od => q _ ⟨g od, fun b o n hb => by rw [upd_ne n]; exact hb, by rw [upd_same]; intro z; cases z⟩ ⟨a, od, vs, rfl, upd_same, Paired.im (g od) h2⟩⟩
theorem rd_frzE {t : TE} {σ : L2.St} (h : t σ H (frzA Q)) : tFrz t σ H Q := h
theorem Ls.fz [Imm r] (g : Fz a H H') (n : b ≠ a) (h : Ls r H b xs) : Ls r H' b xs := let ⟨vs, h1, h2⟩ := h; ⟨vs, g.ne _ _ n h1, Paired.im g.im h2⟩
theorem Gr.fz {A : List Addr} {H0 : Hp} (g : Gr A H0 H) (n : H0 a = none) (f : Fz a H H') : Gr A H0 H' := ⟨fun b o h => by
  obtain ⟨o', h1, h2⟩ := g.ob b o h
  exact ⟨o', f.ne _ _ (fun e => by rw [e, n] at h; cases h) h1, h2⟩, fun P t => by
  obtain ⟨ps, h1, h2, h3⟩ := g.tb P t
  refine ⟨ps, f.ne _ _ (fun e => ?_) h1, h2, fun pos cv hc => ?_⟩
  · obtain ⟨_, t1, _⟩ := t
    rw [e, n] at t1
    cases t1
  · obtain ⟨c, e1, e2⟩ := h3 pos cv hc
    exact ⟨c, e1, f.im _ _ e2 kd_code⟩⟩
end
end Mir
set_option Elab.async false
set_option linter.all false
set_option maxRecDepth 100000
namespace Mir
open PySem PySem.Spec PyProof.Rows L2 NdefX
variable [Nm]
open LamX (CodeO TabB)
/-! ### lambdas with parameters, handed to a def -/
/-- the words of a lambda -/
structure LW where
  qual : Str
  params : Arguments
  body : Expr
  scope : Scope
abbrev LW.nf (L : LW) (cl : List (Str × Addr)) (c : Addr) : NF := ⟨"<lambda>", L.qual, L.params, [], L.scope, cl, c⟩
/-- the object at f is the lambda -/
def LamObj (L : LW) (f c : Addr) (cl : List (Str × Addr)) (h : Heap) : Prop := ∃ pm ctv : Value, h.get? f = some (PySem.W.kla_obj "<lambda>" L.qual L.params L.body L.scope cl pm c ctv)
/-- what a lambda promises: sp ws, ws what its captured cells hold -/
structure LOk (P : Program) (w : World) (K : PySem.W.Frag) (mg : Str → Option Value) (base : Heap) (CX : CXT) (k : Nat) (L : LW) (ps fr : List Str) (sp : List (Option V) → Sp) : Prop where
  len : ∀ ws vs H Q E, sp ws vs H Q E → vs.length = ps.length
  run : ∀ (A : Around) (outer : List Env) (s : Shared) (H : Hp) (us : List Value) (vs : List V) (ws : List (Option V)) (Q : VK) (E : XK) (f c : Addr) (cl : List (Str × Addr)), Room k A → Env0 P w K mg base A outer s H → LamObj L f c cl s.heap → H c = some (CodeO c L.qual) →
    CellsAt cl fr ws s.heap H → Vals vs us → sp ws vs H Q E → codeAny (model P w) A (.call (.ref f) ⟨us, []⟩) (CR CX outer P w H s Q E) s
section
variable {CX : CXT} {P : Program} {w : World} {K : PySem.W.Frag} {mg : Str → Option Value} {base : Heap} {N ps fr : List Str} {L : LW} {k j : Nat} {sp : List (Option V) → Sp}
theorem LOk.mono (o : LOk P w K mg base CX j L ps fr sp) (h : j ≤ k) : LOk P w K mg base CX k L ps fr sp := ⟨o.len, fun A outer s H us vs ws Q E f c cl hr => o.run A outer s H us vs ws Q E f c cl (hr.mono h)⟩
theorem lok_of (S : NScope N ps fr L.scope) (hb : ∀ (cl : List (Str × Addr)) (pm cv ctv : Value) (us : List Value), us.length = ps.length → bindArgs (PySem.W.kla_fn "<lambda>" L.qual L.params L.body L.scope cl pm cv ctv) ⟨us, []⟩ = pure (ps.zip us))
    (len : ∀ ws vs H Q E, sp ws vs H Q E → vs.length = ps.length)
    (hbody : ∀ (A : Around) (outer : List Env) (s : Shared) (H : Hp) (vs : List V) (ws : List (Option V)) (Q : VK) (E : XK) (f c : Addr) (cl : List (Str × Addr)), Room k (A.deeper (envF (L.nf cl c) f s.heap.objs.size)) → sp ws vs H Q E →
      ∃ t : TE, PE (ncx CX P w K mg base N (L.nf cl c) f A outer s H E) L.body t ∧ t (startF N vs ws) H Q) :
    LOk P w K mg base CX (k + 1) L ps fr sp := by
  refine ⟨len, fun A outer s H us vs ws Q E f c cl hr e0 hf hc C r hsp => ?_⟩
  have hl := len _ _ _ _ _ hsp
  have lim : s.heap.NoLimit := e0.mod.nolimit.keeps fun b o e => (e0.bs b o e).1
  obtain ⟨pm, ctv, ho⟩ := hf
  refine PySem.W.kla_callFunE hr.depth ho rfl S.co S.gen rfl (codeO_at e0.hok hc) ?_
  rw [hb cl pm _ ctv us (by rw [← r.length]; exact hl)]
  refine wpAny_pure (wpAny_newFunctionEnv S.nocell (fun ⟨n, _⟩ hy => S.par n (List.of_mem_zip hy).1) (fun h₁ hns hsb => ⟨lim.fresh _ hsb, ?_⟩) S.kind)
  show codeAny _ _ (.expr L.body (envF (L.nf cl c) f s.heap.objs.size)) _ _
  have kp : ∀ b o, s.heap.get? b = some o → h₁.get? b = some o := fun b o e => hsb.extBut b o (Nat.ne_of_lt (Heap.lt_size e)) (Heap.get?_push_of_some _ e)
  obtain ⟨t, ht, hq⟩ := hbody A outer s H vs ws Q E f c cl (hr.deeper _) hsp
  have I : Inv (ncx CX P w K mg base N (L.nf cl c) f A outer s H E) [] (startF N vs ws) H { s with heap := h₁, toks := s.toks + (ps.zip us).length } := inv_startN S hr.hd e0 hl r C hns kp
  refine PySem.W.kla_codeExpr (wpAny_mono (ht.run [] _ (startF N vs ws) H _ I hq) (fun v s' hs => ?_) fun e s' hs => hs)
  obtain ⟨w', H', J, rv, q⟩ := hs
  exact ⟨w', H', J.os, J.bare, J.base, J.hok, rv, q⟩
end
/-- the lambda at the entry of the def that got it -/
structure LamEnt (L : LW) (f c : Addr) (cl : List (Str × Addr)) (fr : List Str) (ws : List (Option V)) (fs : List Addr) (s : Shared) (H : Hp) : Prop where
  obj : LamObj L f c cl s.heap
  fn : H f = none
  nfr : f ∉ fs
  cells : CellsAt cl fr ws s.heap H
section
variable {X : Cx} {pins : List (Addr × Obj)} {σ : L2.St} {H : Hp} {s : Shared} {cl : List (Str × Addr)} {fr : List Str} {ws : List (Option V)} {L : LW} {f c : Addr}
theorem cells_later (C : CellsAt cl fr ws X.s_0.heap X.H_0) (hx : X.ex = []) (I : Inv X pins σ H s) : CellsAt cl fr ws s.heap H := by
  have nx : ∀ b : Addr, b ∉ X.ex := fun b z => by
    rw [hx] at z
    exact absurd z (by simp)
  have kp : ∀ y c, cl.lookup y = some c → ∀ v, X.s_0.heap.IsCell c v → s.heap.IsCell c v := fun y c e v ⟨o, ho, hd⟩ => by
    obtain ⟨sl, q⟩ := I.base.any ho (C.all y c e).1 (nx c)
    exact ⟨_, q, hd⟩
  refine ⟨C.len, fun y c e => ?_, C.inj, fun i y e => ?_⟩
  · obtain ⟨n, v, z⟩ := C.all y c e
    refine ⟨?_, v, kp y c e v z⟩
    obtain ⟨o, ho, _⟩ := z
    exact I.base.free c o ho n (nx c)
  · obtain ⟨c, hc, hv⟩ := C.has i y e
    refine ⟨c, hc, fun v ev => ?_⟩
    obtain ⟨u, r, z⟩ := hv v ev
    exact ⟨u, r, kp y c hc _ z⟩
theorem obj_later (T : LamEnt L f c cl fr ws X.fs X.s_0 X.H_0) (hx : X.ex = []) (I : Inv X pins σ H s) : LamObj L f c cl s.heap := by
  obtain ⟨pm, ctv, ho⟩ := T.obj
  exact ⟨pm, ctv, I.base.keep f _ ho T.fn T.nfr fun z => by
    rw [hx] at z
    exact absurd z (by simp)⟩
theorem lam_fnAt {h : Heap} (o : LamObj L f c cl h) : PySem.W.FnAt f h := by
  obtain ⟨pm, ctv, ho⟩ := o
  exact ⟨_, _, _, _, ho⟩
end
/-- x(..), x a name that holds the lambda -/
def tAct (i : Nat) (f c : Addr) (q : Str) (sp : Sp) (E : L2.St → XK) (t : TA) : TE := fun σ H Q => σ[i]? = some (some (.ref f)) ∧ t σ H fun vs H1 => H1 c = some (CodeO c q) ∧ sp vs H1 Q (E σ)
section
variable {X : Cx} {CX : CXT} {cl : List (Str × Addr)} {ps fr : List Str} {ws : List (Option V)} {i j k : Nat} {x : Str} {L : LW} {f c : Addr} {sp : List (Option V) → Sp} {E : L2.St → XK} {t : TA} {e : Expr} {es : List Expr} {p pos : Pos}
theorem pe_act (T : LamEnt L f c cl fr ws X.fs X.s_0 X.H_0) (hX : X.ex = []) (O : LOk X.prog X.w X.K X.mg X.base CX k L ps fr sp) (hr : Room j X.A) (hk : k ≤ j) (hx : ∀ σ, PassesAt CX X σ (E σ)) (hN : X.N[i]? = some x) (hv : Vis X.env.scope x) (ha : PA X (e :: es) t)
    (hd : (x == ("__debug__" : Str)) = false := by decide) (hcd : (x == ("__classdict__" : Str)) = false := by decide)
    (he : starEach (e :: es) X.env = (false, eval e X.env) :: starEach es X.env := by rfl) (hpl : (backTo pos (starEach es X.env)).any (·.1) = false := by rfl) :
    PE X (.Call (.Name x p) (e :: es) [] pos) (tAct i f c L.qual (sp ws) E t) := by
  refine ⟨fun pins s σ H Q I h => ?_⟩
  obtain ⟨hs, ht⟩ := h
  refine wpAny_Call_Name_kw (thn ((pe_var (pos := p) hN hv hd hcd).run pins s σ H (fun v H1 => v = .ref f ∧ H1 = H) I ⟨.ref f, hs, rfl, rfl⟩) fun u s1 ⟨v, H1, I1, r1, q1⟩ => ?_)
  obtain ⟨ev, eH⟩ := q1
  subst ev
  rw [eH] at I1
  obtain rfl : u = Value.ref f := r1
  refine PySem.W.callWith_F (first := []) (lam_fnAt (obj_later T hX I1)) (thn (ha.run pos pins s1 σ H _ I1 ht) fun us s2 ⟨vs, H2, I2, r, h2, q⟩ => ⟨lam_fnAt (obj_later T hX I2), ?_⟩) he hpl
  show wpAny _ _ (call (.ref f) us) _ _ _
  refine wpAny_call (codeAny_mono (O.run X.A X.stack s2 H2 us vs ws Q (E σ) f c cl (hr.mono hk) I2.env0 (obj_later T hX I2) h2 (cells_later T.cells hX I2) r q) fun r s' hq => ?_)
  cases r with
  | error e => exact hx σ pins H2 s2 e s' I2 hq
  | ok fl =>
    cases fl with
    | ret u => exact I2.after hq
    | next => exact False.elim hq
    | brk => exact False.elim hq
    | cont => exact False.elim hq
end
/-! ### the def that gets the lambda -/
/-- its promise, told of the very state: the lambda's object stands there, its captured cells hold ws -/
structure FnOkC (P : Program) (w : World) (K : PySem.W.Frag) (mg : Str → Option Value) (base : Heap) (CX : CXT) (k : Nat) (f : Addr) (fd : FuncData) (ps : List Str) (L : LW) (fr : List Str) (sp : Addr → Addr → List (Option V) → Sp) : Prop where
  len : ∀ lf lc ws vs H Q E, sp lf lc ws vs H Q E → vs.length = ps.length
  run : ∀ (A : Around) (outer : List Env) (s : Shared) (H : Hp) (args : Args) (us : List Value) (vs : List V) (Q : VK) (E : XK) (lf lc : Addr) (cl : List (Str × Addr)) (ws : List (Option V)), Room k A → Env0 P w K mg base A outer s H → LamEnt L lf lc cl fr ws (frs outer) s H →
    BindsTo s fd args (ps.zip us) → Vals vs us → sp lf lc ws vs H Q E → codeAny (model P w) A (.call (.ref f) args) (CR CX outer P w H s Q E) s
def CalC (P : Program) (w : World) (K : PySem.W.Frag) (mg : Str → Option Value) (base : Heap) (CX : CXT) (k : Nat) (x : Str) (ps : List Str) (L : LW) (fr : List Str) (sp : Addr → Addr → List (Option V) → Sp) : Prop :=
  ∃ (f : Addr) (fd : FuncData), FnOkC P w K mg base CX k f fd ps L fr sp ∧ mg x = some (.ref f) ∧ PySem.W.keepIn K (.ref f) = true ∧ Binds K fd ps []
section
variable {P : Program} {w : World} {K : PySem.W.Frag} {mg : Str → Option Value} {base : Heap} {L : LW} {fr : List Str}
theorem fun_okC {CX : CXT} {x qual : Str} {st : Stmt} {f : Addr} {fd : FuncData} {N ps : List Str} {k : Nat} {sp : Addr → Addr → List (Option V) → Sp} (F : Fun K x qual st f fd) (S : FnScope N ps (defScope st)) (len : ∀ lf lc ws vs H Q E, sp lf lc ws vs H Q E → vs.length = ps.length)
    (hbody : ∀ (cdv : Value) (A : Around) (outer : List Env) (s : Shared) (H : Hp) (vs : List V) (Q : VK) (E : XK) (lf lc : Addr) (cl : List (Str × Addr)) (ws : List (Option V)), Room k (A.deeper (envOfC qual (defScope st) s.heap.objs.size f cdv)) → LamEnt L lf lc cl fr ws (frs outer) s H → sp lf lc ws vs H Q E →
      ∃ t, PSs (cxOf CX P w K mg base N qual (defScope st) f cdv A outer s H E) (defBody st) t ∧ t { nx := fun _ H' => Q .non H', rt := Q } (start N vs) H) : FnOkC P w K mg base CX (k + 1) f fd ps L fr sp := by
  obtain ⟨oc, od, kV, doc, pm, an, cdv, ct, osl, rfl, lk, hcd⟩ := F.ex
  exact ⟨len, fun A outer s H args us vs Q E lf lc cl ws hr e0 T hb r hsp => LamX.run_ofS lk hcd S hr e0 hb r (len _ _ _ _ _ _ _ hsp) fun hr' => hbody cdv A outer s H vs Q E lf lc cl ws hr' T hsp⟩
/-- the same for a def that lets nothing out -/
theorem fun_okC0 {x qual : Str} {st : Stmt} {f : Addr} {fd : FuncData} {N ps : List Str} {k : Nat} {sp : Addr → Addr → List (Option V) → Sp} (F : Fun K x qual st f fd) (S : FnScope N ps (defScope st)) (len : ∀ lf lc ws vs H Q E, sp lf lc ws vs H Q E → vs.length = ps.length)
    (hbody : ∀ (cdv : Value) (A : Around) (outer : List Env) (s : Shared) (H : Hp) (vs : List V) (Q : VK) (E : XK) (lf lc : Addr) (cl : List (Str × Addr)) (ws : List (Option V)), Room k (A.deeper (envOfC qual (defScope st) s.heap.objs.size f cdv)) → LamEnt L lf lc cl fr ws (frs outer) s H → sp lf lc ws vs H Q E →
      ∃ t, PSs (cxOf CX0 P w K mg base N qual (defScope st) f cdv A outer s H E).nox (defBody st) t ∧ t { nx := fun _ H' => Q .non H', rt := Q } (start N vs) H) : FnOkC P w K mg base CX0 (k + 1) f fd ps L fr sp :=
  fun_okC F S len fun cdv A outer s H vs Q E lf lc cl ws hr T h =>
    let ⟨t, p, q⟩ := hbody cdv A outer s H vs Q E lf lc cl ws hr T h
    ⟨t, p.nox, q⟩
end
/-! ### the maker -/
/-- a def that makes lambdas: as Fun, and its code object at c has the table P -/
structure FunT (K : PySem.W.Frag) (x qual : Str) (st : Stmt) (f : Addr) (fd : FuncData) (c P : Addr) : Prop where
  ex : ∃ (oc : Value) (od : Option Addr) (kV doc pm : Value) (an : Option Addr) (ct : Value) (osl : Array (Option Value)),
    fd = PySem.W.fnOf x qual (defArgs st) (defBody st) (defScope st) .none kV doc pm an (.ref c) ct ∧ K.lookup f = some ⟨oc, od, .func fd, osl⟩ ∧ PySem.W.codeIn K (.ref c) qual = true
section
variable {P : Program} {w : World} {K : PySem.W.Frag} {mg : Str → Option Value} {base : Heap}
theorem funT_ok {x qual : Str} {st : Stmt} {f c PT : Addr} {fd : FuncData} {N ps : List Str} {k : Nat} {sp : Sp} (F : FunT K x qual st f fd c PT) (S : FnScope N ps (defScope st)) (len : ∀ vs H Q E, sp vs H Q E → vs.length = ps.length)
    (hbody : ∀ (A : Around) (outer : List Env) (s : Shared) (H : Hp) (vs : List V) (Q : VK) (E : XK), Room k (A.deeper (envOfC qual (defScope st) s.heap.objs.size f (.ref c))) → sp vs H Q E →
      ∃ t, PSs (cxOf CX0 P w K mg base N qual (defScope st) f (.ref c) A outer s H E).nox (defBody st) t ∧ t { nx := fun _ H' => Q .non H', rt := Q } (start N vs) H) : FnOk P w K mg base CX0 (k + 1) f fd ps sp := by
  obtain ⟨oc, od, kV, doc, pm, an, ct, osl, rfl, lk, hcd⟩ := F.ex
  refine fn_of lk hcd S len fun A outer s H vs Q E hr hsp => ?_
  obtain ⟨t, h, q⟩ := hbody A outer s H vs Q E hr hsp
  exact ⟨t, h.nox, q⟩
theorem funT_okX {x qual : Str} {st : Stmt} {f c PT : Addr} {fd : FuncData} {N ps : List Str} {k : Nat} {sp : Sp} (F : FunT K x qual st f fd c PT) (S : FnScope N ps (defScope st)) (len : ∀ vs H Q E, sp vs H Q E → vs.length = ps.length)
    (hbody : ∀ (A : Around) (outer : List Env) (s : Shared) (H : Hp) (vs : List V) (Q : VK) (E : XK), Room k (A.deeper (envOfC qual (defScope st) s.heap.objs.size f (.ref c))) → sp vs H Q E →
      ∃ t, PSs (cxOf (L2.CX P w) P w K mg base N qual (defScope st) f (.ref c) A outer s H E) (defBody st) t ∧ t { nx := fun _ H' => Q .non H', rt := Q } (start N vs) H) : FnOk P w K mg base (L2.CX P w) (k + 1) f fd ps sp := by
  obtain ⟨oc, od, kV, doc, pm, an, ct, osl, rfl, lk, hcd⟩ := F.ex
  exact fn_of lk hcd S len fun A outer s H vs Q E hr hsp => hbody A outer s H vs Q E hr hsp
end
/-- the arguments, the last one a lambda -/
def LP (X : Cx) (L : LW) (pins : List (Addr × Obj)) (σ : L2.St) (Q : Addr → Addr → List V → Hp → Prop) (us : List Value) (s' : Shared) : Prop := ∃ lf lc vs H', Inv X pins σ H' s' ∧ Vals vs us ∧ LamObj L lf lc (cloFrom X.env.cells L.scope.names []) s'.heap ∧ H' lf = none ∧ lf ∉ frs X.stack ∧ Q lf lc vs H'
abbrev TL := L2.St → Hp → (Addr → Addr → List V → Hp → Prop) → Prop
structure PL (X : Cx) (L : LW) (es : List Expr) (t : TL) : Prop where
  run : ∀ (pos : Pos) (pins : List (Addr × Obj)) (s : Shared) (σ : L2.St) (H : Hp) (Q : Addr → Addr → List V → Hp → Prop), Inv X pins σ H s → t σ H Q → wpAny (model X.prog X.w) X.A (spliced (backTo pos (starEach es X.env))) (LP X L pins σ Q) X.xe s
def tlNil (P : Addr) (q : Str) : TL := fun _ H Q => TabN H P Nm.nm ∧ ∀ lf lc H1, Gr [] H H1 → H1 lc = some (CodeO lc q) → Q lf lc [.ref lf] H1
def tlCons (ta : TE) (t : TL) : TL := fun σ H Q => ta σ H fun x H1 => t σ H1 fun lf lc xs H2 => Q lf lc (x :: xs) H2
section
variable {X : Cx} {CX : CXT} {L : LW} {e : Expr} {es : List Expr} {te : TE} {t : TL} {c PT : Addr} {params : Arguments} {body : Expr} {scope : Scope} {lpos : Pos}
theorem pl_nil (TB : TabB X.base X.mg c PT) (hcode : X.env.code = .ref c) (hq : L.qual = X.env.qual ++ "<lambda>") (hnm : Nm.nm lpos.line lpos.col = L.qual) (hdef : defaultsOf L.params X.env = ([], [])) (hfree : ∀ y ∈ L.scope.names, y.2 = .free → X.env.scope.names.lookup y.1 = some .cell ∨ X.env.scope.names.lookup y.1 = some .free)
    (hs : starEach [.Lambda L.params L.body L.scope lpos] X.env = (false, eval (.Lambda L.params L.body L.scope lpos) X.env) :: starEach [] X.env := by rfl) :
    PL X L [.Lambda L.params L.body L.scope lpos] (tlNil PT L.qual) := by
  refine ⟨fun pos pins s σ H Q I h => ?_⟩
  rw [hs]
  show wpAny _ _ (spliced ((false, eval (.Lambda L.params L.body L.scope lpos) X.env) :: backTo pos (starEach [] X.env))) _ _ s
  obtain ⟨⟨tab, hP, tok, known⟩, hgo⟩ := h
  have fin : ∀ (f c' : Addr) (pm ctv : Value) (H1 : Hp) (s' : Shared), Inv X pins σ H1 s' → Gr [] H H1 → s'.heap.get? f = some (PySem.W.kla_obj "<lambda>" L.qual L.params L.body L.scope (cloFrom X.env.cells L.scope.names []) pm c' ctv) → H1 f = none → s.heap.objs.size ≤ f → H1 c' = some (CodeO c' L.qual) →
      wpAny (model X.prog X.w) X.A (spliced []) (fun us s2 => LP X L pins σ Q (.ref f :: us) s2) X.xe s' := fun f c' pm ctv H1 s' I1 g hf hn hge hco =>
    Calls.spliced_nil ⟨f, c', [.ref f], H1, I1, .cons rfl .nil, ⟨pm, ctv, hf⟩, hn, fun z => by
      rcases List.mem_cons.mp (I.stkSub _ z) with e | e
      · have h1 := I.lt
        rw [← e] at h1
        exact Nat.lt_irrefl _ (Nat.lt_of_lt_of_le h1 hge)
      · exact I.nofs hge e, hgo f c' H1 g hco⟩
  have cfr : closureFor L.scope X.env = pure (cloFrom X.env.cells L.scope.names []) := closure_ok fun y hy e => (hfree y hy e).elim (fun z => I.ok.has _ (.inl z)) fun z => I.ok.has _ (.inr z)
  refine Calls.spliced_cons (PySem.W.kla_eval hdef ?_)
  have bmP := TB.bm.keeps I.bk
  have at0 : s.heap.get? PT = some { cls := .none, data := .fields tab } := I.hok PT _ hP
  rw [← hq]
  by_cases hn : codeAmong lpos tab.toList = none
  · refine PySem.W.kla_makeFunction (mg := X.mg) (c := c) (P := PT) (ps := tab) cfr I.ok.glob (I.mod.glob.keeps I.bk) hcode (TB.code.keeps I.bk) at0 tok hn TB.gP bmP fun c' ctv h' tk grows le lt rec here => ?_
    obtain ⟨_, oc, us, t, e, g1, g2, g3⟩ := rec
    cases e
    have newC : H c' = none := I.hok.fresh le
    have le2 : s.heap.objs.size ≤ h'.objs.size := Nat.le_trans le (Nat.le_of_lt lt)
    have ne1 : h'.objs.size ≠ c' := Nat.ne_of_gt lt
    have ne2 : h'.objs.size ≠ PT := Nat.ne_of_gt (Nat.lt_of_lt_of_le (Heap.lt_size at0) le2)
    have stay : ∀ b o, b ≠ PT → H b = some o → upd (upd H PT (.tbl (tab ++ #[rawInt lpos.line, rawInt lpos.col, .ref c']))) c' (CodeO c' L.qual) b = some o := fun b o n e => by rw [upd_ne (ne_of_none e newC), upd_ne n, e]
    have J := LamX.inv_table (q := L.qual) (t' := tk) (more := #[rawInt lpos.line, rawInt lpos.col, .ref c']) (h' := h'.push (PySem.W.kla_obj "<lambda>" L.qual L.params L.body L.scope (cloFrom X.env.cells L.scope.names []) ((X.mg "__name__").getD .none) c' ctv)) I hP
      (fun b o n e => Heap.get?_push_of_some _ (grows b o n e)) (Heap.get?_push_of_some _ here) le ⟨oc, us, t, Heap.get?_push_of_some _ g1, g2, g3⟩
    refine fin _ c' _ ctv _ _ J ⟨fun b o e => ?_, fun P T => ?_⟩ (Heap.get?_push_size _ rfl) ?_ le2 upd_same
    · by_cases n : b = PT
      · subst n
        rw [hP] at e
        cases e
        exact ⟨_, by rw [upd_ne (ne_of_none hP newC), upd_same], .inr (.inr ⟨rfl, rfl⟩)⟩
      · exact ⟨o, stay b o n e, .inl rfl⟩
    · obtain ⟨p2, a1, a2, a3⟩ := T
      have kn : ∀ (c0 : Addr) (q : Str), H c0 = some (CodeO c0 q) → upd (upd H PT (.tbl (tab ++ #[rawInt lpos.line, rawInt lpos.col, .ref c']))) c' (CodeO c' L.qual) c0 = some (CodeO c0 q) := fun c0 q e => stay c0 _ (fun z => by
        rw [z, hP] at e
        cases e) e
      by_cases n : P = PT
      · subst n
        rw [hP] at a1
        cases a1
        have el : (tab ++ #[rawInt lpos.line, rawInt lpos.col, .ref c']).toList = tab.toList ++ [rawInt lpos.line, rawInt lpos.col, .ref c'] := by simp
        refine ⟨_, by rw [upd_ne (ne_of_none hP newC), upd_same], by rw [el]; exact PySem.TriplesOk_snoc _ _ _ _ a2, fun p cv hc => ?_⟩
        rw [el] at hc
        rcases among_app2 _ a2 hc with z | ⟨z, z1, z2⟩
        · obtain ⟨c0, e1, e2⟩ := a3 p cv z
          exact ⟨c0, e1, kn c0 _ e2⟩
        · exact ⟨c', z, by rw [← z1, ← z2, hnm]; exact upd_same⟩
      · refine ⟨p2, stay P _ n a1, a2, fun p cv hc => ?_⟩
        obtain ⟨c0, e1, e2⟩ := a3 p cv hc
        exact ⟨c0, e1, kn c0 _ e2⟩
    · rw [upd_ne ne1, upd_ne ne2]
      exact I.hok.fresh le2
  · obtain ⟨cv, hcv⟩ := Option.ne_none_iff_exists'.mp hn
    obtain ⟨c', e, hco⟩ := known lpos cv hcv
    subst e
    rw [hnm] at hco
    refine PySem.W.kla_makeFunctionHit (mg := X.mg) (c := c) (P := PT) (ps := tab) cfr I.ok.glob (I.mod.glob.keeps I.bk) hcode (TB.code.keeps I.bk) at0 tok hcv bmP fun ctv h' tk grows le => ?_
    exact fin _ c' _ ctv H _ (I.kept fun b o e => Heap.get?_push_of_some _ (grows b o e)) (Gr.refl H) (Heap.get?_push_size _ rfl) (I.hok.fresh le) le hco
theorem pl_cons (he : PE X e te) (hr : PL X L es t) (hs : starEach (e :: es) X.env = (false, eval e X.env) :: starEach es X.env := by rfl) : PL X L (e :: es) (tlCons te t) := by
  refine ⟨fun pos pins s σ H Q I h => ?_⟩
  rw [hs]
  show wpAny _ _ (spliced ((false, eval e X.env) :: backTo pos (starEach es X.env))) _ _ s
  refine Calls.spliced_cons (thn (he.run pins s σ H _ I h) fun u s1 ⟨x, H1, I1, r1, q1⟩ => ?_)
  exact thn (hr.run pos pins s1 σ H1 _ I1 q1) fun us s2 ⟨lf, lc, xs, H2, I2, r2, o, n, nf, q2⟩ => ⟨lf, lc, x :: xs, H2, I2, .cons r1 r2, o, n, nf, q2⟩
/-- g(.., lambda ..) -/
def tCallL (js : List Nat) (sp : Addr → Addr → List (Option V) → Sp) (E : L2.St → XK) (t : TL) : TE := fun σ H Q => t σ H fun lf lc vs H1 => sp lf lc (js.map (slotAt σ)) vs H1 Q (E σ)
theorem pe_callL {fr ps : List Str} {js : List Nat} {k : Nat} {f : Addr} {fd : FuncData} {x : Str} {sp : Addr → Addr → List (Option V) → Sp} {E : L2.St → XK} {p pos : Pos}
    (F : FnOkC X.prog X.w X.K X.mg X.base CX k f fd ps L fr sp) (hr : Room k X.A) (hg : Gl X x) (hm : X.mg x = some (.ref f)) (hk : PySem.W.keepIn X.K (.ref f) = true) (hb : Binds X.K fd ps []) (hx : ∀ σ, PassesAt CX X σ (E σ)) (cp : X.Ok → Caps X (cloFrom X.env.cells L.scope.names []) fr js)
    (ha : PL X L (e :: es) t) (hdb : (x == ("__debug__" : Str)) = false := by decide) (he : starEach (e :: es) X.env = (false, eval e X.env) :: starEach es X.env := by rfl) (hpl : (backTo pos (starEach es X.env)).any (·.1) = false := by rfl) :
    PE X (.Call (.Name x p) (e :: es) [] pos) (tCallL js sp E t) := by
  refine ⟨fun pins s σ H Q I h => ?_⟩
  refine wpAny_Call_Name_kw (ld_glob I hg hm ?_ hdb)
  refine PySem.W.callWith_K (h₀ := X.base) I.ok.mod.kin hk (thn (ha.run pos pins s σ H _ I h) fun us s1 ⟨lf, lc, vs, H1, I1, r, o, n, nf, q⟩ => ⟨I1.kIn, ?_⟩) he hpl
  have hl : us.length = ps.length := by rw [← r.length]; exact F.len _ _ _ _ _ _ _ q
  have b := hb s1 us I1.kIn (by rw [List.append_nil]; exact hl)
  rw [List.append_nil] at b
  have C := cells_of I1 (cp I1.ok)
  refine wpAny_call (codeAny_mono (F.run X.A X.stack s1 H1 ⟨us, []⟩ us vs Q (E σ) lf lc _ _ hr I1.env0 ⟨o, n, nf, C⟩ b r q) fun r s' hq => ?_)
  cases r with
  | error e => exact hx σ pins H1 s1 e s' I1 hq
  | ok fl =>
    cases fl with
    | ret u => exact I1.after hq
    | next => exact False.elim hq
    | brk => exact False.elim hq
    | cont => exact False.elim hq
end
/-! ### readings -/
section
variable {σ : L2.St} {H : Hp} {Q : VK}
theorem rd_act {i : Nat} {f c : Addr} {q : Str} {sp : Sp} {E : L2.St → XK} {t : TA} (h1 : σ[i]? = some (some (.ref f))) (h : t σ H fun vs H1 => H1 c = some (CodeO c q) ∧ sp vs H1 Q (E σ)) : tAct i f c q sp E t σ H Q := ⟨h1, h⟩
theorem rd_callL {js : List Nat} {sp : Addr → Addr → List (Option V) → Sp} {E : L2.St → XK} {t : TL} (h : t σ H fun lf lc vs H1 => sp lf lc (js.map (slotAt σ)) vs H1 Q (E σ)) : tCallL js sp E t σ H Q := h
theorem rd_lcons {ta : TE} {t : TL} {Q : Addr → Addr → List V → Hp → Prop} (h : ta σ H fun x H1 => t σ H1 fun lf lc xs H2 => Q lf lc (x :: xs) H2) : tlCons ta t σ H Q := h
theorem rd_lnil {P : Addr} {q : Str} {Q : Addr → Addr → List V → Hp → Prop} (h1 : TabN H P Nm.nm) (h : ∀ lf lc H1, Gr [] H H1 → H1 lc = some (CodeO lc q) → Q lf lc [.ref lf] H1) : tlNil P q σ H Q := ⟨h1, h⟩
end
/-- the code object of a lambda -/
def rF (c : Addr) (q : Str) : Rp Unit := fun H _ _ => H c = some (CodeO c q)
instance {c : Addr} {q : Str} : Imm (rF c q) := ⟨fun g h => g _ _ h kd_code⟩
theorem rF_of {c : Addr} {q : Str} {H : Hp} {v : V} (h : H c = some (CodeO c q)) : rF c q H () v := h
/-- the tables of the program -/
def TabsA (TT : List Addr) (H : Hp) : Prop := ∀ P ∈ TT, TabN H P Nm.nm
theorem TabsA.gr {TT A : List Addr} {H H' : Hp} (t : TabsA TT H) (g : Gr A H H') : TabsA TT H' := fun P h => g.tb P (t P h)
theorem passN {X : Cx} : ∀ σ, PassesAt CX0 X σ ((fun _ => E0) σ) := fun _ _ _ _ _ _ _ h => (show False from h).elim
/-! ### where a lambda stands in a text -/
def aReturn (s : Stmt) : Expr := match s with
  | .Return (some e) _ => e
  | _ => .Constant .none 0 ⟨0, 0, 0, 0⟩
def aArg (i : Nat) (e : Expr) : Expr := match e with
  | .Call _ as _ _ => as.getD i e
  | _ => e
def aRight (e : Expr) : Expr := match e with
  | .BinOp _ _ r _ => r
  | _ => e
def aAssign (s : Stmt) : Expr := match s with
  | .Assign _ e _ => e
  | _ => .Constant .none 0 ⟨0, 0, 0, 0⟩
def aBody (i : Nat) (s : Stmt) : Stmt := match s with
  | .For _ _ b _ _ => b.getD i s
  | .FunctionDef _ _ b _ _ _ _ _ _ _ => b.getD i s
  | _ => s
def lwOf (q : Str) (e : Expr) : LW := match e with
  | .Lambda p b sc _ => ⟨q, p, b, sc⟩
  | _ => ⟨q, { posonlyargs := [], args := [], vararg := none, kwonlyargs := [], kw_defaults := [], kwarg := none, defaults := [] }, e, { kind := .function, names := [], isGenerator := false, isCoroutine := false }⟩
theorem funT_mk {K : PySem.W.Frag} {x qual : Str} {st : Stmt} {f c PT : Addr} {oc : Value} {od an : Option Addr} {osl : Array (Option Value)} {kV doc pm ct : Value} (l : K.lookup f = some ⟨oc, od, .func (PySem.W.fnOf x qual (defArgs st) (defBody st) (defScope st) .none kV doc pm an (.ref c) ct), osl⟩)
    (h : PySem.W.codeIn K (.ref c) qual = true) : FunT K x qual st f (PySem.W.fnOf x qual (defArgs st) (defBody st) (defScope st) .none kV doc pm an (.ref c) ct) c PT := ⟨⟨oc, od, kV, doc, pm, an, ct, osl, rfl, l, h⟩⟩
def posE (e : Expr) : Nat × Nat := match e with
  | .Lambda _ _ _ p => (p.line, p.col)
  | _ => (0, 0)
end Mir
set_option Elab.async false
set_option linter.all false
set_option maxRecDepth 100000
namespace Mir
open PySem PySem.Spec PyProof.Rows L2
variable [Nm]
/-! ### enumerate over a tuple -/
section
open PySem.AutoSeq1 (wpAny_loadPart')
theorem enumTup_makes (t : Addr) (items : Array Value) (n : Nat) (dd : Option Addr) (sl : Array (Option Value)) :
    Meets (Builtin.«enumerate.__new__» ⟨[.type "enumerate", .ref t], []⟩) (fun _ R s => s.heap.get? t = some { cls := .type "tuple", dict := dd, data := .seq items n, slots := sl } ∧
      R (.ok (.ret (.ref (s.heap.push { cls := .type "tuple_iterator", data := .fields #[.ref t, .int 0 0] }).objs.size)))
        { s with heap := (s.heap.push { cls := .type "tuple_iterator", data := .fields #[.ref t, .int 0 0] }).push { cls := .type "enumerate", data := .fields #[.none, .bool false, .ref s.heap.objs.size, rawInt 0, .none, .none] } }) :=
  .of_wp fun prog w A R s h => by
    obtain ⟨hp, g, d, tk, os⟩ := s; obtain ⟨ht, h⟩ := h
    have isSub := sub_enumerate
    have isT : Heap.IsTuple (Shared.heap ⟨hp, g, d, tk, os⟩) t items := ⟨_, ht, rfl, n, rfl⟩
    wp_walk using wpAny_loadPart' ht
    refine wpAny_stack_any fun st => wpAny_pure ?_
    split
    · rename_i c _ _ _ _ _
      cases (c == Value.type "enumerate") <;> (wp_walk using wpAny_loadPart' ht, wpAny_pyIter_tuple isT; exact ⟨_, rfl, h⟩)
    · wp_walk using wpAny_loadPart' ht, wpAny_pyIter_tuple isT
      exact ⟨_, rfl, h⟩
end
theorem call_enumT {prog : Program} {w : World} {A : Around} {E : Value → Shared → Prop} {s : Shared} {t : Addr} {items : Array Value} {Q : Value → Shared → Prop} (hT : s.heap.IsTuple t items)
    (h : ∀ h', IsEnum h' (s.heap.objs.size + 1) s.heap.objs.size 0 .none → h'.IsTupleIter s.heap.objs.size t 0 → h'.objs.size = s.heap.objs.size + 2 →
      (∀ b o, s.heap.get? b = some o → h'.get? b = some o) → Q (.ref (s.heap.objs.size + 1)) { s with heap := h' }) :
    wpAny (model prog w) A (call (.type "enumerate") [.ref t]) Q E s := by
  obtain ⟨⟨c, dd, dt, sl⟩, ht, e1, n, e2⟩ := hT
  obtain rfl : c = .type "tuple" := e1
  obtain rfl : dt = .seq items n := e2
  refine callType_new F.called_enumerate (by decide) (F.typeCall_enumerate_1 _) (F.newCall_enumerate_1 _) (fun obj => F.args_object_init_2 obj _) F.entry_enumerate_new (enumTup_makes t items n dd sl) ⟨ht, ?_⟩
  have z : (s.heap.push { cls := .type "tuple_iterator", data := .fields #[.ref t, .int 0 0] }).objs.size = s.heap.objs.size + 1 := Heap.size_push ..
  show _ ∧ _
  have he := Heap.get?_push_size (s.heap.push { cls := .type "tuple_iterator", data := .fields #[.ref t, .int 0 0] }) (o := { cls := .type "enumerate", data := .fields #[.none, .bool false, .ref s.heap.objs.size, rawInt 0, .none, .none] }) rfl
  rw [z] at he ⊢
  exact ⟨⟨_, he, rfl⟩, h _ he ⟨_, Heap.get?_push_of_some _ (Heap.get?_push_size _ rfl), rfl, rfl⟩ (by rw [Heap.size_push, z]) fun b o x => Heap.get?_push_of_some _ (Heap.get?_push_of_some _ x)⟩
/-- the tuple at a, its items in new pairs with their places -/
def ItT (K : PySem.W.Frag) (a : Addr) : It :=
  ⟨fun i H => ∃ (xs : List V) (x : V), SqT K H a xs ∧ xs[i]? = some x, fun i H v H' => ∃ T x, v = .ref T ∧ H T = none ∧ H' = upd H T (.tup [.int (i : Nat), x]) ∧ ∀ xs, SqT K H a xs → xs[i]? = some x, fun i H => ∃ xs : List V, SqT K H a xs ∧ xs.length ≤ i⟩
theorem turn_enumT {P : Program} {w : World} {K : PySem.W.Frag} {elts : List Expr} {kk : Nat} {tpos : Pos} (a e it : Addr) :
    Turn P w K (.Tuple elts kk tpos) (ItT K a) [e, it] e (fun i h => (∃ old, IsEnum h e it ((i : Nat) : Int) old) ∧ h.IsTupleIter it a i ∧ e ≠ it ∧ a ≠ e ∧ a ≠ it) where
  mem := by simp
  obj := fun i h st b hb => by
    obtain ⟨⟨old, he⟩, ⟨o, ho, hc, hd⟩, _⟩ := st
    have e' : b = e ∨ b = it := by simpa using hb
    rcases e' with z | z <;> rw [z]
    · exact ⟨_, he, fun v q => nomatch q⟩
    · exact ⟨o, ho, fun v q => by rw [hd] at q; cases q⟩
  keep := fun i h h' st k => let ⟨⟨old, he⟩, ⟨o, ho, r⟩, hne⟩ := st; ⟨⟨old, k e (by simp) _ he⟩, ⟨o, k it (by simp) _ ho, r⟩, hne⟩
  item := by
    intro X hP hw hK hc i pins s σ H E I hf st hg
    subst hP hw hK
    obtain ⟨⟨old, he⟩, hit, hne, n1, n2⟩ := st
    obtain ⟨xs, x, hq, hx⟩ := hg
    obtain ⟨its, rv, p, hz⟩ := I.tuple hq
    obtain ⟨u, hu, ru⟩ := rv.get hx
    have hel : e < s.heap.objs.size := Heap.lt_size he
    have hil : it < s.heap.objs.size := by obtain ⟨_, q, _⟩ := hit; exact Heap.lt_size q
    have lt : i < its.toArray.size := by
      have q := (List.getElem?_eq_some_iff.mp hu).1
      rw [List.size_toArray]
      exact q
    refine wpAny_pyNext_enum_itemD (Draws.tuple (A := X.A.in1) (show X.A.in1.handled = none from I.ok.hd hc) it a n2 its.toArray) he ⟨hit, p⟩ lt hne (by simp [hne, Ne.symm n1]) fun y h' tk hy ho hit' hT hsz hk => ?_
    have ey : y = u := by
      have e2 : its.toArray[i]? = some u := by simpa using hu
      rw [e2] at hy
      exact (Option.some.inj hy).symm
    subst ey
    refine ⟨_, rfl, wpAny_letOwnedTupleGo_enum (s := { s with heap := h', toks := tk + 1 }) ho fun h'' he' sb => ?_⟩
    have hT2 : h''.get? s.heap.objs.size = some { cls := .type "tuple", data := .seq #[.int i tk, y] } := (sb.2 _ (Nat.ne_of_gt hel)).trans hT
    have new : ObjOk X.prog X.w (upd H s.heap.objs.size (.tup [.int (i : Nat), x])) h'' s.heap.objs.size (.tup [.int (i : Nat), x]) :=
      ⟨by show 2 ≤ sizeLine; decide, [.int i tk, y], .cons ⟨_, rfl⟩ (.cons ru .nil), ⟨_, hT2, rfl, _, rfl⟩⟩
    have I1 : Inv X pins σ (upd H s.heap.objs.size (.tup [.int (i : Nat), x])) { s with heap := h'', toks := tk + 1 } :=
      I.turnedNew (ch := [e, it]) (fun b ob hb q => (sb.2 b (fun z => hb (by simp [z]))).trans (hk b ob (fun z => hb (by simp [z])) (fun z => hb (by simp [z])) q)) hf (Nat.le_refl _) new
    refine ⟨.ref s.heap.objs.size, _, I1, rfl, ⟨_, x, rfl, I.hok.fresh (Nat.le_refl _), rfl, fun ys hy => by rw [I.tuple_inj hy hq]; exact hx⟩, ⟨⟨y, ?_⟩, ?_, hne, n1, n2⟩, fun b hb => ?_⟩
    · have e1 : ((i + 1 : Nat) : Int) = (i : Int) + 1 := by omega
      rw [e1]; exact he'
    · obtain ⟨⟨o, g1, g2⟩, _⟩ := hit'
      exact ⟨o, (sb.2 it (Ne.symm hne)).trans g1, g2⟩
    · have hb' : b < s.heap.objs.size := by
        have e' : b = e ∨ b = it := by simpa using hb
        rcases e' with z | z <;> rw [z]
        · exact hel
        · exact hil
      rw [upd_ne (Nat.ne_of_lt hb')]
      exact (hf b hb).1
  done := by
    intro X hP hw hK hc i pins s σ H E I hf st hg
    subst hP hw hK
    obtain ⟨⟨old, he⟩, hit, hne, n1, n2⟩ := st
    obtain ⟨xs, hq, hx⟩ := hg
    obtain ⟨its, rv, p, hz⟩ := I.tuple hq
    obtain ⟨f0, f1, f2, f3, f4, f5⟩ := hf it (by simp)
    have hl := rv.length
    have hh : (X.A).in1.handled = none := I.ok.hd hc
    have hn : its.toArray[i]? = none := by simp; omega
    have hT : s.TypeIs (.ref e) "enumerate" := ⟨_, he, rfl⟩
    unfold pyNext
    refine wpAny_bind (wpAny_attempt (wpAny_callSpecial?_slot (name := Str.ofString "__next__") hT F.slot_enumerate_next
      (wpAny_call_entry F.slot_enumerate_next hT F.entry_enumerate_next ?_ (F.args_enumerate_next_1 _))))
    show wpAny _ _ (field (.ref e) 2 >>= _) _ _ _
    refine wpAny_bind (wpAny_field he rfl (x := .ref it) rfl ?_)
    refine wpAny_bind (wpAny_nextOf_tuple_end hh hit p hn fun h' x he' hx' => ?_)
    obtain ⟨o, ho, hc'⟩ := hx'
    refine wpAny_bind (wpAny_isInstance (T := "StopIteration") (b := true) ⟨o, ho, hc'⟩ isSubtype_stop ?_)
    exact wpAny_pure ⟨rfl, I.turned (t' := s.toks) (fun b o hb q => he' b o hb q) f0 f1 f3 f4 f5⟩
  self := fun A i s Q E st h => let ⟨⟨_, he⟩, _⟩ := st; wpAny_pyIter_enum he h
def iEnumT (K : PySem.W.Frag) (ta : TA) : TI := fun σ H R => ta σ H fun vs H1 => ∃ a xs, vs = [.ref a] ∧ SqT K H1 a xs ∧ R (ItT K a) H1
theorem pi_enumT {X : Cx} {e1 : Expr} {ta : TA} {p pos tpos : Pos} {elts : List Expr} {kk : Nat} {K : PySem.W.Frag} (hg : Gl X "enumerate") (hm : X.mg "enumerate" = none) (ha : PA X [e1] ta) (hK : X.K = K) (hs : starEach [e1] X.env = [(false, eval e1 X.env)] := by rfl) :
    PI X (.Tuple elts kk tpos) (.Call (.Name "enumerate" p) [e1] [] pos) (iEnumT K ta) := by
  subst hK
  refine ⟨fun pins s σ H R I h => ?_⟩
  refine Call_ (ld_blt I hg hm boot_enumerate (PyProof.Rows.callWith_type1 (thn (ha.run pos pins s σ H _ I h) fun us s1 ⟨vs, H1, I1, r1, q1⟩ => ?_) hs rfl))
  obtain ⟨a, xs, ex, hq, q⟩ := q1
  subst ex
  cases r1 with
  | cons r rr =>
    cases rr
    cases r
    obtain ⟨its, rv, p', hz⟩ := I1.tuple hq
    have la : a < s1.heap.objs.size := by obtain ⟨_, z, _⟩ := id p'; exact Heap.lt_size z
    refine call_enumT p' fun h' he hit hsz hk => wpAny_pyIter_enum he ?_
    have I2 : Inv X pins σ H1 { s1 with heap := h' } := I1.kept (t' := s1.toks) hk
    refine ⟨s1.heap.objs.size + 1, [s1.heap.objs.size + 1, s1.heap.objs.size], _, _, H1, rfl, I2, turn_enumT a (s1.heap.objs.size + 1) s1.heap.objs.size, ⟨⟨.none, he⟩, hit, Nat.succ_ne_self _, Nat.ne_of_lt (Nat.lt_succ_of_lt la), Nat.ne_of_lt la⟩, fun b hb => ?_, q⟩
    have hle : s1.heap.objs.size ≤ b := by
      have e' : b = s1.heap.objs.size + 1 ∨ b = s1.heap.objs.size := by simpa using hb
      rcases e' with z | z <;> rw [z]
      · exact Nat.le_add_right _ _
      · exact Nat.le_refl _
    exact I1.fpOk hle (I1.hok.fresh hle)
theorem walk_enumT {K : PySem.W.Frag} {a : Addr} {xs : List V} : Walk (ItT K a) xs.length (fun H => SqT K H a xs) (YPair (fun i => some (.int (i : Nat))) (fun i => xs[i]?)) := by
  refine ⟨fun i _ hi q => ⟨xs, xs[i], q, by simp [hi]⟩, fun _ q => ⟨xs, q, Nat.le_refl _⟩, fun i H v H' _ q y => ?_⟩
  obtain ⟨T, x, h1, h2, h3, h4⟩ := y
  exact ⟨T, .int (i : Nat), x, h1, h2, h3, rfl, h4 xs q⟩
section
variable {α : Type} {K : PySem.W.Frag} {r : Rp α} {H H0 : Hp} {a : Addr} {xs : List α} {vs : List V}
theorem wk_enumT [Imm r] (hp : Paired (r H0) xs vs) : Wk (ItT K a) (enumF xs) (fun H => SqT K H a vs) (rP K rI r) H0 := ⟨_, by rw [enumF, List.length_zip, rng_length, Nat.min_self, Paired.length hp]; exact walk_enumT, fun A i H v H' g hi h => by
  obtain ⟨T, x, y, rfl, hn, rfl, ex, ey⟩ := h
  cases ex
  obtain ⟨z, hz, hr⟩ := Paired.get1 hp ey
  have hi' : i < (rng 0 xs.length).length := by
    rw [enumF, List.length_zip] at hi
    exact Nat.lt_of_lt_of_le hi (Nat.min_le_left _ _)
  refine ⟨((i : Nat), z), zip_get (by rw [List.getElem?_eq_getElem hi', rng_get]; congr 1; omega) hz, Gr.new hn, T, .int (i : Nat), y, rfl, SqT.of upd_same, rfl, Imm.mono (g.of0' (Gr.new hn)) hr⟩⟩
def enumAT (K : PySem.W.Frag) (R : It → Hp → Prop) (vs : List V) (H1 : Hp) : Prop := ∃ a xs, vs = [.ref a] ∧ SqT K H1 a xs ∧ R (ItT K a) H1
theorem enum_t {R : It → Hp → Prop} {u : V} {b : Addr} {xs : List V} (e : u = .ref b) (h1 : SqT K H b xs) (h : R (ItT K b) H) : enumAT K R [u] H := ⟨b, xs, by rw [e], h1, h⟩
theorem rd_ienumT {l : TA} {σ : L2.St} {R : It → Hp → Prop} (h : l σ H (enumAT K R)) : iEnumT K l σ H R := h
end
/-! ### a tuple times an int -/
theorem tuple_mul_one (l : Addr) (items : Array Value) (n : Nat) (dd : Option Addr) (sl : Array (Option Value)) (x : Int) (u : Tok) (c0 : (decide (x < -(2 ^ 63)) || decide (x ≥ 2 ^ 63)) = false) (c1 : (items.isEmpty || x == 1) = true) :
    Meets (Builtin.«tuple.__mul__» ⟨[.ref l, .int x u], []⟩) (fun _ R s => s.heap.get? l = some { cls := .type "tuple", dict := dd, data := .seq items n, slots := sl } ∧ R (.ok (.ret (.ref l))) s) :=
  .of_wp fun prog w A R s h => by
    obtain ⟨hp, g, d, tk, os⟩ := s
    obtain ⟨hl, h⟩ := h
    have f1 := AutoSeq1.idx_int
    wp_walk using AutoSeq1.wpAny_loadPart' hl
    repeat (first
      | (refine wpAny_ite_false (decide_eq_false (by rw [c0]; exact Bool.false_ne_true)) ?_; wp_walk using AutoSeq1.wpAny_loadPart' hl)
      | (refine wpAny_ite_true (decide_eq_true c1) ?_; wp_walk using AutoSeq1.wpAny_loadPart' hl))
    exact ⟨_, rfl, h⟩
theorem tuple_mul_none (l : Addr) (items : Array Value) (n : Nat) (dd : Option Addr) (sl : Array (Option Value)) (x : Int) (u : Tok) (c0 : (decide (x < -(2 ^ 63)) || decide (x ≥ 2 ^ 63)) = false) (c1 : (items.isEmpty || x == 1) = false) (c2 : (decide (x ≤ 0) || items.isEmpty) = true) :
    Meets (Builtin.«tuple.__mul__» ⟨[.ref l, .int x u], []⟩) (fun _ R s => s.heap.get? l = some { cls := .type "tuple", dict := dd, data := .seq items n, slots := sl } ∧
      R (.ok (.ret (Value.ref s.heap.objs.size))) { s with heap := s.heap.push { cls := Value.type "tuple", data := Data.seq #[] }, toks := s.toks }) :=
  .of_wp fun prog w A R s h => by
    obtain ⟨hp, g, d, tk, os⟩ := s
    obtain ⟨hl, h⟩ := h
    have f1 := AutoSeq1.idx_int
    wp_walk using AutoSeq1.wpAny_loadPart' hl
    repeat (first
      | (refine wpAny_ite_false (decide_eq_false (by rw [c0]; exact Bool.false_ne_true)) ?_; wp_walk using AutoSeq1.wpAny_loadPart' hl)
      | (refine wpAny_ite_false (decide_eq_false (by rw [c1]; exact Bool.false_ne_true)) ?_; wp_walk using AutoSeq1.wpAny_loadPart' hl)
      | (refine wpAny_ite_true (decide_eq_true c2) ?_; wp_walk using AutoSeq1.wpAny_loadPart' hl))
    exact ⟨_, rfl, h⟩
def repL {α : Type} (xs : List α) (k : Int) : List α := (List.replicate k.toNat xs).flatten
def rRepA (K : PySem.W.Frag) : R2 := fun x y H Q => ∃ l k xs, x = .ref l ∧ y = .int k ∧ SqT K H l xs ∧ xs ≠ [] ∧ -1000 ≤ k ∧ k ≤ 1000 ∧ xs.length ≤ 1000 ∧ (k = 1 → Q (.ref l) H) ∧ (k ≠ 1 → ∀ p, H p = none → Q (.ref p) (upd H p (.tup (repL xs k))))
theorem op_repA {X : Cx} {K : PySem.W.Frag} (hK : X.K = K) : OpR X (binaryOp .Mult) (rRepA K) := by
  subst hK
  intro pins s σ H x y v u Q I rx ry h
  obtain ⟨l, k, xs, rfl, rfl, hT, hne, h0, h1, hz, q1, q2⟩ := h
  by_cases k2 : 2 ≤ k
  · exact op_repT pins s σ H _ _ v u Q I rx ry ⟨l, k, xs, rfl, rfl, hT, hne, k2, h1, hz, q2 (by omega)⟩
  cases rx
  obtain ⟨t, rfl⟩ := ry
  obtain ⟨its, r, ⟨⟨cls, dd, data, sl⟩, ho, hc, n, hd⟩, hs⟩ := I.tuple hT
  obtain rfl : cls = .type "tuple" := hc
  obtain rfl : data = .seq its.toArray n := hd
  have ne : its.toArray.isEmpty = false := by
    cases its with
    | nil => cases r; exact absurd rfl hne
    | cons a b => rfl
  have c0 : (decide (k < -(2 ^ 63)) || decide (k ≥ 2 ^ 63)) = false := by
    rw [decide_eq_false (by omega), decide_eq_false (by omega)] <;> rfl
  refine wpAny_binaryOp_repeat_ref (T := "tuple") (U := "int") (by decide) ⟨_, ho, rfl⟩ (fun s' => typeIs_int s' k t) noFill_tuple_mul F.fills_int_mul F.slot_int_rmul repeat_tuple F.slot_int_index.lookup
    (call_meets F.slot_int_rmul (typeIs_int s k t) F.entry_int_rmul (F.args_int_rmul_2 _ _) (int_rmul_tuple k t l its.toArray n dd sl) ⟨ho, rfl, ⟨_, ho, rfl⟩, ?_⟩)
  by_cases e1 : k = 1
  · refine call_meets F.slot_tuple_mul ⟨_, ho, rfl⟩ F.entry_tuple_mul (F.args_tuple_mul_2 _ _) (tuple_mul_one l its.toArray n dd sl k t c0 (by rw [e1, ne]; rfl)) ⟨ho, ?_⟩
    exact ⟨.ref l, H, I, rfl, q1 e1⟩
  · refine call_meets F.slot_tuple_mul ⟨_, ho, rfl⟩ F.entry_tuple_mul (F.args_tuple_mul_2 _ _) (tuple_mul_none l its.toArray n dd sl k t c0 (by rw [ne, Bool.false_or]; exact beq_eq_false_iff_ne.mpr e1) (by rw [decide_eq_true (show k ≤ 0 by omega)]; rfl)) ⟨ho, ?_⟩
    have z : repL xs k = [] := by
      unfold repL
      rw [show k.toNat = 0 by omega]
      rfl
    have q := q2 e1
    rw [z] at q
    refine ⟨.ref s.heap.objs.size, _, I.laid (t' := s.toks) (o := .tup []) (fun b ob q => Heap.get?_push_of_some _ q) (Nat.le_refl _) ?_, rfl, q _ (I.hok.fresh (Nat.le_refl _))⟩
    exact ⟨by show 0 ≤ sizeLine; omega, [], .nil, IsTup.new _ _⟩
/-! ### readings -/
section
variable {α : Type} {K : PySem.W.Frag} {X : Cx} {r : Rp α} {H : Hp} {a b : Addr} {xs ys : List α} {v w : V} {Q : VK} {σ : L2.St} {E : Er → Prop}
theorem catAK (e : X.K = K) : OpR X (binaryOp .Add) (rCatA K) := e ▸ op_catA
theorem sl_tupAK (e : X.K = K) : SlR X (rSlA K) := e ▸ sl_tupA
theorem Paired.nil_l {q : α → V → Prop} {vs : List V} (h : Paired q xs vs) : vs = [] ↔ xs = [] := by
  cases h with
  | nil => simp
  | cons _ _ => simp
theorem cat_TA [Imm r] (hx : rT K r H xs v) (hy : rT K r H ys w) (l : lenOk (xs ++ ys)) (q : ∀ v H', Gr [] H H' → rT K r H' (xs ++ ys) v → Q v H') : rCatA K v w H Q := by
  obtain ⟨a, rfl, vs, h1, h2⟩ := hx
  obtain ⟨b, rfl, ws, h3, h4⟩ := hy
  refine ⟨a, b, vs, ws, rfl, rfl, h1, h3, ?_, fun e => ?_, fun _ e => ?_, fun _ _ p n => ?_⟩
  · have l' : (xs ++ ys).length ≤ sizeLine := l
    rw [List.length_append, Paired.length h2, Paired.length h4] at l'
    exact l'
  · have z : xs = [] := (Paired.nil_l h2).mp e
    subst z
    exact q _ _ (Gr.refl H) ⟨b, rfl, ws, h3, h4⟩
  · have z : ys = [] := (Paired.nil_l h4).mp e
    subst z
    exact q _ _ (Gr.refl H) ⟨a, rfl, vs, h1, by rw [List.append_nil]; exact h2⟩
  · exact q _ _ (Gr.new n) ⟨p, rfl, _, SqT.of upd_same, Paired.app (Paired.imm (Gr.new (A := []) n) h2) (Paired.imm (Gr.new (A := []) n) h4)⟩
theorem Paired.takeD {q : α → V → Prop} {vs : List V} (h : Paired q xs vs) : ∀ i j : Nat, Paired q ((xs.drop i).take j) ((vs.drop i).take j) := by
  induction h with
  | nil => intro i j; simp; exact .nil
  | cons h t ih =>
    rename_i x u xs us
    intro i j
    cases i with
    | succ i => exact ih i j
    | zero =>
      cases j with
      | zero => exact .nil
      | succ j => exact .cons h (by simpa using ih 0 j)
theorem cut_TA [Imm r] {lo hi : Option Int} (h : rT K r H xs v) (q : ∀ v H', Gr [] H H' → rT K r H' (cutT xs lo hi) v → Q v H') : rSlA K v lo hi H Q := by
  obtain ⟨a, rfl, vs, h1, h2⟩ := h
  refine ⟨a, vs, rfl, h1, fun e => ?_, fun _ p n => ?_⟩
  · have z : cutT xs lo hi = xs := by
      unfold cutT
      rw [Paired.length h2, e.1, e.2, List.drop_zero, Nat.sub_zero, ← Paired.length h2, List.take_length]
    exact q _ _ (Gr.refl H) ⟨a, rfl, vs, h1, by rw [z]; exact h2⟩
  · refine q _ _ (Gr.new n) ⟨p, rfl, _, SqT.of upd_same, Paired.imm (Gr.new (A := []) n) ?_⟩
    unfold cutT cutV
    rw [Paired.length h2]
    exact Paired.takeD h2 _ _
theorem tup_of_T (h : rT K r H xs v) (q : Q v H) : ap3 (fun vs H Q => ∃ p ys, vs = [V.ref p] ∧ ((SqL K H p ys ∧ ∀ l, H l = none → Q (.ref l) (upd H l (.tup ys))) ∨ (SqT K H p ys ∧ Q (.ref p) H))) [v] H Q := by
  obtain ⟨a, rfl, vs, h1, _⟩ := h
  exact ⟨a, vs, rfl, .inr ⟨h1, q⟩⟩
/-- how often a tuple, a list may be repeated -/
def repOk {α : Type} (xs : List α) (k : Int) : Prop := -1000 ≤ k ∧ k ≤ 1000 ∧ xs.length ≤ 1000 ∧ xs.length * k.toNat ≤ 1000000
instance (xs : List α) (k : Int) : Decidable (repOk xs k) := inferInstanceAs (Decidable (_ ∧ _))
theorem Paired.rep {q : α → V → Prop} {vs : List V} (h : Paired q xs vs) : ∀ n : Nat, Paired q (List.replicate n xs).flatten (List.replicate n vs).flatten
  | 0 => .nil
  | n + 1 => by
    rw [List.replicate_succ, List.replicate_succ, List.flatten_cons, List.flatten_cons]
    exact Paired.app h (Paired.rep h n)
theorem rep_T [Imm r] {k : Int} (h : rT K r H xs v) (n1 : xs.isEmpty = false) (c : repOk xs k) (q : ∀ v H', Gr [] H H' → rT K r H' (repL xs k) v → Q v H') : rRepA K v (.int k) H Q := by
  obtain ⟨a, rfl, vs, h1, h2⟩ := h
  refine ⟨a, k, vs, rfl, rfl, h1, fun e => ?_, c.1, c.2.1, by rw [← Paired.length h2]; exact c.2.2.1, fun e => ?_, fun _ p n => ?_⟩
  · rw [(Paired.nil_l h2).mp e] at n1
    cases n1
  · subst e
    have z : repL xs 1 = xs := by
      unfold repL
      simp
    exact q _ _ (Gr.refl H) ⟨a, rfl, vs, h1, by rw [z]; exact h2⟩
  · exact q _ _ (Gr.new n) ⟨p, rfl, _, SqT.of upd_same, Paired.imm (Gr.new (A := []) n) (Paired.rep h2 _)⟩
theorem rep_L [Imm r] {k : Int} (h : Ls r H a xs) (c : repOk xs k) (q : ∀ p H', H p = none → Gr [] H H' → Ls r H' p (repL xs k) → Q (.ref p) H') : rRep (.ref a) (.int k) H Q := by
  obtain ⟨vs, h1, h2⟩ := h
  refine ⟨a, k, vs, rfl, rfl, h1, by have := c.1; omega, by have := c.2.1; omega, ?_, fun p n => q _ _ n (Gr.new n) ⟨_, upd_same, Paired.imm (Gr.new (A := []) n) (Paired.rep h2 _)⟩⟩
  rw [← Paired.length h2]
  exact Nat.le_trans c.2.2.2 (by decide)
def pmax (i j : Int) : Int := if j > i then j else i
theorem rd_max {i j : Int} (q : Q (.int (pmax i j)) H) : ap3 (fun xs H Q => ∃ i j, xs = [.int i, .int j] ∧ Q (.int (if j > i then j else i)) H) [.int i, .int j] H Q := ⟨i, j, rfl, q⟩
/-! ### the truth of a list, of a tuple -/
def tTru (K : PySem.W.Frag) (ta : TE) : TT := fun σ H Q => ta σ H fun x H' => ∃ k, TruV K x H' k ∧ Q k H'
theorem pt_tru {e1 : Expr} {ta : TE} (ha : PE X e1 ta) (e : X.K = K) (he : ∀ whole, isTrue e1 X.env whole = (do let v ← whole; standAt e1.pos; holding [v] (truthy v)) := by intro _; rfl) : PT X e1 (tTru K ta) := by
  subst e
  exact pt_truth ha he
def truA (K : PySem.W.Frag) (Q : Bool → Hp → Prop) (x : V) (H' : Hp) : Prop := ∃ k, TruV K x H' k ∧ Q k H'
theorem rd_Tru {ta : TE} {Q : Bool → Hp → Prop} (h : ta σ H (truA K Q)) : tTru K ta σ H Q := h
theorem tru_T {Q : Bool → Hp → Prop} (h : rT K r H xs v) (q : Q (!xs.isEmpty) H) : truA K Q v H := by
  obtain ⟨a, rfl, vs, h1, h2⟩ := h
  refine ⟨_, .inr (.inl ⟨vs, h1, rfl⟩), ?_⟩
  have e : vs.isEmpty = xs.isEmpty := by cases h2 <;> rfl
  rw [e]
  exact q
theorem tru_L {Q : Bool → Hp → Prop} (h : Lq K r H a xs) (q : Q (!xs.isEmpty) H) : truA K Q (.ref a) H := by
  obtain ⟨vs, h1, h2⟩ := h
  refine ⟨_, .inl ⟨vs, h1, rfl⟩, ?_⟩
  have e : vs.isEmpty = xs.isEmpty := by cases h2 <;> rfl
  rw [e]
  exact q
/-! ### reversed(range(n)) -/
def revA (R : It → Hp → Prop) (x : V) (H1 : Hp) : Prop := ∃ n, x = .int n ∧ (-(2 ^ 62) ≤ (0 : Int) ∧ (0 : Int) < 2 ^ 62 ∧ -(2 ^ 62) ≤ n ∧ n < 2 ^ 62 ∧ R (Itc ((0 : Int) + (((n - 0).toNat : Nat) : Int) - 1) (-1) (n - 0).toNat) H1)
theorem rd_rev {n : Int} {R : It → Hp → Prop} (c : rgOk n) (h : R (Itc ((n.toNat : Int) - 1) (-1) n.toNat) H) : revA R (.int n) H := by
  have c1 := c.1
  have c2 := c.2
  refine ⟨n, rfl, by decide, by decide, by omega, by omega, ?_⟩
  rw [show (0 : Int) + (((n - 0).toNat : Nat) : Int) - 1 = (n.toNat : Int) - 1 by omega, show n - 0 = n by omega]
  exact h
theorem rd_irev {l : TE} {R : It → Hp → Prop} (h : l σ H (revA R)) : iRevR (tRg1 l) σ H R := h
/-! ### frozen lists -/
theorem len_Z (h : rZ r H xs v) (q : Q (.int xs.length) H) : ap3 (fun vs H Q => ∃ p ys, vs = [V.ref p] ∧ (SqL K H p ys ∨ SqT K H p ys) ∧ Q (.int ys.length) H) [v] H Q := by
  obtain ⟨a, rfl, hq⟩ := rZ_q (K := K) h
  exact len_L hq q
theorem tup_of_Z [Imm r] (h : rZ r H xs v) (q : ∀ v H', Gr [] H H' → rT K r H' xs v → Q v H') : ap3 (fun vs H Q => ∃ p ys, vs = [V.ref p] ∧ ((SqL K H p ys ∧ ∀ l, H l = none → Q (.ref l) (upd H l (.tup ys))) ∨ (SqT K H p ys ∧ Q (.ref p) H))) [v] H Q := by
  obtain ⟨a, rfl, hq⟩ := rZ_q (K := K) h
  exact tup_of_L hq q
theorem lst_of_Z [Imm r] (h : rZ r H xs v) (q : ∀ p H', H p = none → Gr [] H H' → Ls r H' p xs → Q (.ref p) H') : ap3 (fun vs H Q => ∃ p ys, vs = [V.ref p] ∧ (SqL K H p ys ∨ SqT K H p ys) ∧ ∀ l, H l = none → Q (.ref l) (upd H l (.lst ys))) [v] H Q := by
  obtain ⟨a, rfl, hq⟩ := rZ_q (K := K) h
  exact lst_of_L hq q
/-! ### a list of three taken apart -/
def un3 {α : Type} : List α → R (α × α × α)
  | [a, b, c] => .ok (a, b, c)
  | _ => .out
def un2 {α : Type} : List α → R (α × α)
  | [a, b] => .ok (a, b)
  | _ => .out
def un3A (K : PySem.W.Frag) (P : List V → Prop) (v : V) (H : Hp) : Prop := ∃ b vs, v = .ref b ∧ SqL K H b vs ∧ vs.length = 3 ∧ P vs
theorem rd_glE {t : TGs} {n : Nat} {Q : L2.St → Hp → Prop} (h : un3A K (fun vs => t vs σ H Q) v H) (e : n = 3) : gLst K n t v σ H Q := by
  subst e
  exact h
theorem un3_L {Z : α × α × α → Prop} {P : List V → Prop} (h : Lq K r H a xs) (hm : wp (un3 xs) Z E) (q : ∀ p x y z, r H p.1 x → r H p.2.1 y → r H p.2.2 z → Z p → P [x, y, z]) : un3A K P (.ref a) H := by
  obtain ⟨vs, h1, h2⟩ := h
  match xs, hm with
  | [x1, x2, x3], hm =>
    cases h2 with
    | cons g1 t1 => cases t1 with
      | cons g2 t2 => cases t2 with
        | cons g3 t3 => cases t3; exact ⟨a, _, rfl, h1, rfl, q _ _ _ _ g1 g2 g3 hm⟩
end
/-- an answer that is there -/
def unO {α : Type} : Option α → R α
  | some x => .ok x
  | none => .out
theorem unO_I {H : Hp} {o : Option Int} {v : V} {Z : Int → Prop} {E : Er → Prop} (h : rO rI H o v) (hm : wp (unO o) Z E) : ∃ x, v = .int x ∧ Z x := by
  cases o with
  | none => exact hm.elim
  | some x => exact ⟨x, h.2, hm⟩
end Mir
set_option Elab.async false
set_option linter.all false
namespace Mir
open PySem PySem.Spec PyProof.Rows L2
variable [Nm]
/-! ### the mirrors' own arithmetic -/
section
variable {α σ ρ : Type}
theorem foldR_ok {f : σ → α → R σ} (h : ∀ s x, ∃ s', f s x = .ok s') : ∀ (xs : List α) (s : σ), ∃ s', foldR f s xs = .ok s'
  | [], s => ⟨s, rfl⟩
  | x :: xs, s => by
    obtain ⟨s1, e⟩ := h s x
    obtain ⟨s2, e2⟩ := foldR_ok h xs s1
    exact ⟨s2, by show (f s x).bind _ = _; rw [e]; exact e2⟩
theorem foldR_inv {f : σ → α → R σ} (I : σ → Prop) (P : α → Prop) (h : ∀ s x, I s → P x → ∃ s', f s x = .ok s' ∧ I s') : ∀ (xs : List α) (s : σ), I s → (∀ x ∈ xs, P x) → ∃ s', foldR f s xs = .ok s' ∧ I s'
  | [], s, hs, _ => ⟨s, rfl, hs⟩
  | x :: xs, s, hs, hx => by
    obtain ⟨s1, e, i1⟩ := h s x hs (hx x List.mem_cons_self)
    obtain ⟨s2, e2, i2⟩ := foldR_inv I P h xs s1 i1 fun y hy => hx y (List.mem_cons_of_mem _ hy)
    exact ⟨s2, by show (f s x).bind _ = _; rw [e]; exact e2, i2⟩
theorem whileR_inv {c : σ → R Bool} {f : σ → R σ} (I : σ → Prop) (μ : σ → Nat) (h : ∀ s, I s → (c s = .ok true ∧ ∃ s', f s = .ok s' ∧ I s' ∧ μ s' < μ s) ∨ c s = .ok false) :
    ∀ (n : Nat) (s : σ), I s → μ s < n → ∃ s', whileR c f n s = .ok s' ∧ I s' ∧ c s' = .ok false
  | 0, s, _, hm => absurd hm (Nat.not_lt_zero _)
  | n + 1, s, hs, hm => by
    rcases h s hs with ⟨hc, s', hf, hi, hl⟩ | hc
    · obtain ⟨s2, e, i2, c2⟩ := whileR_inv I μ h n s' hi (by omega)
      refine ⟨s2, ?_, i2, c2⟩
      show (c s).bind _ = _
      rw [hc]
      show (f s).bind _ = _
      rw [hf]
      exact e
    · refine ⟨s, ?_, hs, hc⟩
      show (c s).bind _ = _
      rw [hc]
      rfl
end
theorem grd_ok {c : Prop} [Decidable c] {α : Type} {m : R α} (h : c) : grd c m = m := by
  unfold grd
  exact if_pos h
theorem rng_mem {lo x : Int} : ∀ {n : Nat}, x ∈ rng lo n → lo ≤ x ∧ x < lo + n := by
  intro n
  induction n generalizing lo with
  | zero => intro h; cases h
  | succ n ih =>
    intro h
    rcases List.mem_cons.mp h with rfl | h
    · omega
    · have := ih h
      omega
theorem mem_rng {lo x : Int} : ∀ {n : Nat}, lo ≤ x → x < lo + n → x ∈ rng lo n := by
  intro n
  induction n generalizing lo with
  | zero => intro h1 h2; omega
  | succ n ih =>
    intro h1 h2
    by_cases e : x = lo
    · exact e ▸ List.mem_cons_self
    · exact List.mem_cons_of_mem _ (ih (by omega) (by omega))
end Mir
set_option Elab.async false
set_option linter.all false
set_option maxRecDepth 100000
set_option maxHeartbeats 4000000
namespace Pf
open PySem PySem.Spec PyProof.Rows L2 Mir
open NdefX (Caps ndef_free ndef_fr)
open LamX (CodeO)
def topS (i : Nat) : Stmt := PySem.Challenge.pw_fieldmaps_k06_rows_modulo_a_prime.main.body.getD i (.Pass ⟨0, 0, 0, 0⟩)

instance : Nm := ⟨fun l c => if (l, c) = posE (aArg 3 (aReturn (aBody 1 (topS 16)))) then "power_row.<locals>.<lambda>" else "", fun _ => false⟩

abbrev s__law_state : Stmt := topS 18
abbrev n__law_state : List Str := ["script", "seed", "total", "cell"]
theorem sc__law_state : FnScope n__law_state ["script"] (defScope s__law_state) := ⟨rfl, rfl, rfl, by decide +kernel, rfl, by decide +kernel, by decide +kernel⟩
def m__law_state_b1 (s9 : Int × Int) (x26 : Int) : R (Int × Int) :=
  R.ok (((s9.1 * (1000003 : Int)) + (pabs x26)), (((s9.2 * (48271 : Int)) + x26) % (2147483647 : Int)))
def m__law_state (a_script : (List Int)) : R (List Int) :=
  (foldR m__law_state_b1 ((0 : Int), (1 : Int)) (cutT a_script none (some (63 : Int)))).bind fun s4 => R.ok ([s4.1, s4.2])
def sp__law_state (K : PySem.W.Frag) : Sp := fun vs H Q _ => ∃ (a_script : (List Int)) (p_script : Addr), vs = [.ref p_script] ∧ Lq K rI H p_script a_script ∧ wp (m__law_state a_script) (fun r => ∀ p H', Gr [] H H' → H p = none → Ls rI H' p r → Q (.ref p) H') (fun _ => False)
theorem ok__law_state {P : Program} {w : World} {K : PySem.W.Frag} {mg : Str → Option Value} {base : Heap} {f : Addr} {fd : FuncData} (F : Fun K "_law_state" "_law_state" s__law_state f fd) (z_abs : mg "abs" = none) (z_int : mg "int" = none) : FnOk P w K mg base CX0 1 f fd ["script"] (sp__law_state K) := by
  refine F.ok sc__law_state (fun vs H Q E h => ?_) (fun cdv A outer s H0 vs Q E hr h => ?_)
  · obtain ⟨a_script, p_script, rfl, h_script, hm⟩ := h
    rfl
  · obtain ⟨a_script, p_script, rfl, h_script, hm⟩ := h
    have hm : wp (m__law_state a_script) _ _ := hm
    unfold m__law_state at hm
    refine ⟨_, (pss_cons (ps_set (i := 1) sc__law_state.nd rfl (Or.inl rfl) pe_int) (pss_cons (ps_set (i := 2) sc__law_state.nd rfl (Or.inl rfl) pe_int) (pss_cons (ps_for PassesOwn.never rfl (pi_listK (K := K) (pe_slice (sl_listK (K := K) rfl) (pv 0) po_none (po_some pe_int)) rfl) (pg_name (i := 3) sc__law_state.nd rfl (Or.inl rfl)) (pss_cons (ps_set (i := 1) sc__law_state.nd rfl (Or.inl rfl) (pe_op op_add (pe_op op_mul (pv 1) pe_int) (pe_callB call_abs (by rfl) z_abs (by decide +kernel) (pa_cons (pv 3) pa_nil)))) (pss_one (ps_set (i := 2) sc__law_state.nd rfl (Or.inl rfl) (pe_op op_mod (pe_callTy call_int1 (by rfl) z_int (by decide +kernel) (pa_cons (pe_op op_add (pe_op op_mul (pv 2) pe_int) (pv 3)) pa_nil)) pe_int))))) (pss_one (ps_ret (pe_lst (pa_cons (pv 1) (pa_cons (pv 2) pa_nil)))))))), ?_⟩
    have g0 := Gr.refl (A := []) H0
    refine rd_seq (rd_asg (rd_c (rd_gn ?_)))
    refine rd_nx ?_
    refine rd_seq (rd_asg (rd_c (rd_gn ?_)))
    refine rd_nx ?_
    refine seq_join (t := tFor _ _ _) (wp_bind hm) (fun (s : Int × Int) (σ : L2.St) (H : Hp) => ∃ (o8 : Option V), σ = [some (.ref p_script), some (.int s.1), some (.int s.2), o8] ∧ Gr [] H0 H) (fun N2 hN3 hm => ?_) (fun s4 σ H5 hr6 hm => ?_)
    · have gl7 := Gr.refl (A := []) H0
      refine rd_for (rd_il (rd_sl (rd_var rfl (rd_np (rd_part (rd_c (rd_kI (cut_L (K := K) h_script fun p13 H14 n15 g16 h17 => ?_))))))))
      have nw19 := Gr.free g0 n15
      have nw20 := Gr.free gl7 n15
      have h_script := Lq.g0 g16 h_script
      have g0 := g0.of0' g16
      have gl7 := gl7.of0' g16
      obtain ⟨vs21, hl22, hp23⟩ := id (Ls.q h17)
      have gl25 := Gr.refl (A := []) H14
      refine ⟨_, rfl, ⟨_, hl22⟩, for_lstR (r := rI) (H0 := H14) (fun (s : Int × Int) (σ : L2.St) (H : Hp) => ∃ (o24 : Option V), σ = [some (.ref p_script), some (.int s.1), some (.int s.2), o24] ∧ Gr [] H14 H) hp23 (by exact wp_N hm (fun s σ' H' hr hz => hN3 s σ' H' (by obtain ⟨w0, e, g⟩ := hr; exact ⟨w0, e, gl7.trans g⟩) hz)) ⟨_, rfl, gl25⟩ (fun _ _ _ hr => by obtain ⟨_, _, g⟩ := hr; exact g.lst nin0 hl22) (fun x26 v27 s9 σ H10 N12 hx28 hr11 hm => ?_)⟩
      unfold m__law_state_b1 at hm
      obtain ⟨o31, rfl, g30⟩ := hr11
      have h_script := Lq.gA g30 nin0 h_script
      have g0 := Gr.of0' g0 g30
      have gl25 := Gr.of0' gl25 g30
      obtain rfl := hx28
      refine rd_gn (rd_seq (rd_asg (rd_op (rd_op (rd_var rfl (rd_c (rd_rI (.inr ⟨by decide, by decide⟩) (rd_cb (rd_cons (rd_var rfl (rd_nil (rd_abs (rd_rI0 (rd_gn ?_))))))))))))))
      refine rd_nx ?_
      refine rd_asg (rd_op (rd_cb (rd_cons (rd_op (rd_op (rd_var rfl (rd_c (rd_rI (.inr ⟨by decide, by decide⟩) (rd_var rfl (rd_rI0 (rd_nil (rd_int (rd_c (rd_rI (by show (0 : Int) < 2147483647; decide) (rd_gn ?_)))))))))))))))
      exact hm _ _ ⟨_, rfl, gl25⟩
    obtain ⟨o33, rfl, g32⟩ := hr6
    have h_script := Lq.gA g32 nin0 h_script
    have g0 := Gr.of0' g0 g32
    refine rd_ret (rd_lst (rd_cons (rd_var rfl (rd_cons (rd_var rfl (rd_nil (mk_L (r := rI) (xs := [s4.1, s4.2]) (.cons rfl (.cons rfl .nil)) (by show 2 ≤ sizeLine; decide) fun p34 H35 n36 g37 h38 => ?_)))))))
    have nw39 := Gr.free g0 n36
    have g0 := g0.of0' g37
    exact hm _ _ g0 nw39 h38

abbrev s__law_take : Stmt := topS 19
abbrev n__law_take : List Str := ["state", "m", "value"]
theorem sc__law_take : FnScope n__law_take ["state", "m"] (defScope s__law_take) := ⟨rfl, rfl, rfl, by decide +kernel, rfl, by decide +kernel, by decide +kernel⟩
def m__law_take (a_state : (List Int)) (a_m : Int) : R (Int × (List Int)) :=
  (getL a_state (0 : Int)).bind fun t1 => if (decide ((0 : Int) < t1)) = true then ((getL a_state (0 : Int)).bind fun t5 => grd (0 < a_m) <| (getL a_state (0 : Int)).bind fun t9 => grd (CDiv t9 a_m) <| (setL a_state (0 : Int) (t9 / a_m)).bind fun t13 => R.ok ((t5 % a_m), t13)) else ((getL a_state (1 : Int)).bind fun t17 => (setL a_state (1 : Int) (((t17 * (48271 : Int)) + (11 : Int)) % (2147483647 : Int))).bind fun t20 => (getL t20 (1 : Int)).bind fun t24 => grd (0 < a_m) <| R.ok (((t24 / (7 : Int)) % a_m), t20))
def sp__law_take (K : PySem.W.Frag) : Sp := fun vs H Q _ => ∃ (a_state : (List Int)) (p_state : Addr) (a_m : Int), vs = [.ref p_state, (.int a_m)] ∧ Ls rI H p_state a_state ∧ wp (m__law_take a_state a_m) (fun r => ∀ H', Gr [p_state] H H' → Ls rI H' p_state r.2 → Q (.int r.1) H') (fun _ => False)
theorem ok__law_take {P : Program} {w : World} {K : PySem.W.Frag} {mg : Str → Option Value} {base : Heap} {f : Addr} {fd : FuncData} (F : Fun K "_law_take" "_law_take" s__law_take f fd) (z_int : mg "int" = none) : FnOk P w K mg base CX0 1 f fd ["state", "m"] (sp__law_take K) := by
  refine F.ok sc__law_take (fun vs H Q E h => ?_) (fun cdv A outer s H0 vs Q E hr h => ?_)
  · obtain ⟨a_state, p_state, a_m, rfl, h_state, hm⟩ := h
    rfl
  · obtain ⟨a_state, p_state, a_m, rfl, h_state, hm⟩ := h
    have hm : wp (m__law_take a_state a_m) _ _ := hm
    unfold m__law_take at hm
    refine ⟨_, (pss_cons (ps_if (pt_cmpR op_gt (pe_ix (ix_listK (K := K) rfl) (pv 0) pe_int (fun _ _ => rfl)) pe_int (nomark _)) (pss_cons (ps_set (i := 2) sc__law_take.nd rfl (Or.inl rfl) (pe_op op_mod (pe_callTy call_int1 (by rfl) z_int (by decide +kernel) (pa_cons (pe_ix (ix_listK (K := K) rfl) (pv 0) pe_int (fun _ _ => rfl)) pa_nil)) (pv 1))) (pss_cons (ps_asg (pe_op op_fdiv (pe_ix (ix_listK (K := K) rfl) (pv 0) pe_int (fun _ _ => rfl)) (pv 1)) (pg_sub (pv 0) pe_int set_list)) (pss_one (ps_ret (pv 2))))) pss_nil) (pss_cons (ps_asg (pe_op op_mod (pe_callTy call_int1 (by rfl) z_int (by decide +kernel) (pa_cons (pe_op op_add (pe_op op_mul (pe_ix (ix_listK (K := K) rfl) (pv 0) pe_int (fun _ _ => rfl)) pe_int) pe_int) pa_nil)) pe_int) (pg_sub (pv 0) pe_int set_list)) (pss_one (ps_ret (pe_op op_mod (pe_callTy call_int1 (by rfl) z_int (by decide +kernel) (pa_cons (pe_op op_fdiv (pe_ix (ix_listK (K := K) rfl) (pv 0) pe_int (fun _ _ => rfl)) pe_int) pa_nil)) (pv 1)))))), ?_⟩
    have g0 := Gr.refl (A := [p_state]) H0
    refine rd_seq (rd_if (rd_T (rd_op (rd_op (rd_var rfl (rd_c (ix_L (Ls.q h_state) (wp_bind hm) fun t1 v2 h3 hm => ?_)))))))
    obtain rfl := h3
    refine rd_c (rd_rI0 (rd_kB ?_))
    refine iteB (fun e4 => ?_) (fun e4 => ?_)
    · have hm := ifT e4 (wp_iteB hm)
      refine rd_seq (rd_asg (rd_op (rd_cb (rd_cons (rd_op (rd_var rfl (rd_c (ix_L (Ls.q h_state) (wp_bind hm) fun t5 v6 h7 hm => ?_))))))))
      obtain rfl := h7
      obtain ⟨c8, hm⟩ := wp_grd hm
      refine rd_nil (rd_int (rd_var rfl (rd_rI c8 (rd_gn ?_))))
      refine rd_nx ?_
      refine rd_seq (rd_asg (rd_op (rd_op (rd_var rfl (rd_c (ix_L (Ls.q h_state) (wp_bind hm) fun t9 v10 h11 hm => ?_))))))
      obtain rfl := h11
      obtain ⟨c12, hm⟩ := wp_grd hm
      refine rd_var rfl (rd_rI c12 (rd_gs (rd_var rfl (rd_c (rd_set h_state rfl (wp_bind hm) fun t13 H14 g15 h16 hm => ?_)))))
      have g0 := Gr.at1 g0 (by simp) g15
      refine rd_nx ?_
      exact rd_ret (rd_var rfl (hm _ g0 h16))
    have hm := ifF e4 (wp_iteB hm)
    refine rd_next (rd_nx ?_)
    refine rd_seq (rd_asg (rd_op (rd_cb (rd_cons (rd_op (rd_op (rd_op (rd_var rfl (rd_c (ix_L (Ls.q h_state) (wp_bind hm) fun t17 v18 h19 hm => ?_))))))))))
    obtain rfl := h19
    refine rd_c (rd_rI (.inr ⟨by decide, by decide⟩) (rd_c (rd_rI0 (rd_nil (rd_int (rd_c (rd_rI (by show (0 : Int) < 2147483647; decide) (rd_gs (rd_var rfl (rd_c (rd_set h_state rfl (wp_bind hm) fun t20 H21 g22 h23 hm => ?_)))))))))))
    have g0 := Gr.at1 g0 (by simp) g22
    refine rd_nx ?_
    refine rd_ret (rd_op (rd_cb (rd_cons (rd_op (rd_op (rd_var rfl (rd_c (ix_L (Ls.q h23) (wp_bind hm) fun t24 v25 h26 hm => ?_))))))))
    obtain rfl := h26
    obtain ⟨c27, hm⟩ := wp_grd hm
    exact rd_c (rd_rI ⟨by decide, by decide⟩ (rd_nil (rd_int (rd_var rfl (rd_rI c27 (hm _ g0 h23))))))

abbrev s_without_end : Stmt := topS 8
abbrev n_without_end : List Str := ["items", "zero", "length"]
theorem sc_without_end : FnScope n_without_end ["items", "zero"] (defScope s_without_end) := ⟨rfl, rfl, rfl, by decide +kernel, rfl, by decide +kernel, by decide +kernel⟩
def m_without_end_b1 (a_items : (List Int)) (a_zero : Int) (s8 : Int) : R Bool :=
  (andR (R.ok (decide ((0 : Int) < s8))) ((getL a_items (s8 - (1 : Int))).bind fun t22 => R.ok (decide (t22 = a_zero)))).bind fun t25 => R.ok t25
def m_without_end_b2 (s8 : Int) : R (Int) :=
  R.ok (s8 - (1 : Int))
def m_without_end (a_items : (List Int)) (a_zero : Int) : R (List Int) :=
  (whileR (m_without_end_b1 a_items a_zero) m_without_end_b2 100000 ((a_items).length : Int)).bind fun s4 => R.ok (cutT a_items none (some s4))
def sp_without_end (K : PySem.W.Frag) : Sp := fun vs H Q _ => ∃ (a_items : (List Int)) (p_items : Addr) (a_zero : Int), vs = [.ref p_items, (.int a_zero)] ∧ Ls rI H p_items a_items ∧ wp (m_without_end a_items a_zero) (fun r => ∀ v H', Gr [] H H' → (rT K rI) H' r v → Q v H') (fun _ => False)
theorem ok_without_end {P : Program} {w : World} {K : PySem.W.Frag} {mg : Str → Option Value} {base : Heap} {f : Addr} {fd : FuncData} (F : Fun K "without_end" "without_end" s_without_end f fd) (z_len : mg "len" = none) (z_tuple : mg "tuple" = none) : FnOk P w K mg base CX0 1 f fd ["items", "zero"] (sp_without_end K) := by
  refine F.ok sc_without_end (fun vs H Q E h => ?_) (fun cdv A outer s H0 vs Q E hr h => ?_)
  · obtain ⟨a_items, p_items, a_zero, rfl, h_items, hm⟩ := h
    rfl
  · obtain ⟨a_items, p_items, a_zero, rfl, h_items, hm⟩ := h
    have hm : wp (m_without_end a_items a_zero) _ _ := hm
    unfold m_without_end at hm
    refine ⟨_, (pss_cons (ps_set (i := 2) sc_without_end.nd rfl (Or.inl rfl) (pe_callB (lenK (K := K) rfl) (by rfl) z_len PySem.boot_len (pa_cons (pv 0) pa_nil))) (pss_cons (ps_while PassesOwn.never (PW.pt (pw_and (pt_cmpR op_gt (pv 2) pe_int (nomark _)) (pw_and1 (pt_cmpR op_eqI (pe_ix (ix_listK (K := K) rfl) (pv 0) (pe_op op_sub (pv 2) pe_int) (fun _ _ => rfl)) (pv 1) (nomark _))))) (pss_one (ps_set (i := 2) sc_without_end.nd rfl (Or.inl rfl) (pe_op op_sub (pv 2) pe_int)))) (pss_one (ps_ret (pe_callTy (tupleK (K := K) rfl) (by rfl) z_tuple (by decide +kernel) (pa_cons (pe_slice (sl_listK (K := K) rfl) (pv 0) po_none (po_some (pv 2))) pa_nil)))))), ?_⟩
    have g0 := Gr.refl (A := []) H0
    refine rd_seq (rd_asg (rd_cb (rd_cons (rd_var rfl (rd_nil (len_L (Ls.q h_items) (rd_gn ?_)))))))
    refine rd_nx ?_
    refine seq_join (t := tWhile _ _) (wp_bind hm) (fun (s : Int) (σ : L2.St) (H : Hp) => σ = [some (.ref p_items), some (.int a_zero), some (.int s)] ∧ Gr [] H0 H) (fun N2 hN3 hm => ?_) (fun s4 σ H5 hr6 hm => ?_)
    · have gl7 := Gr.refl (A := []) H0
      refine whl_R (fun (s : Int) (σ : L2.St) (H : Hp) => σ = [some (.ref p_items), some (.int a_zero), some (.int s)] ∧ Gr [] H0 H) (by exact wp_N hm (fun s σ' H' hr hz => hN3 s σ' H' hr hz)) ⟨rfl, gl7⟩ (fun s8 σ H9 N11 W12 m13 hW14 hr10 hm => ?_)
      unfold m_without_end_b1 at hm
      obtain ⟨rfl, g17⟩ := hr10
      have h_items := Ls.gA g17 nin0 h_items
      have g0 := Gr.of0' g0 g17
      have gl7 := Gr.of0' gl7 g17
      refine (ev_and (fun Q hm => by
          have gb18 := Gr.refl (A := []) H9
          exact rd_T (rd_op (rd_var rfl (rd_c (rd_rI0 (rd_kB (hm _ gb18))))))) (fun H19 g20 Q hm => by
          have h_items := Ls.g0 g20 h_items
          have g0 := g0.of0' g20
          have gl7 := gl7.of0' g20
          have gb21 := Gr.refl (A := []) H19
          refine rd_T (rd_op (rd_op (rd_var rfl (rd_op (rd_var rfl (rd_c (rd_rI0 (ix_L (Ls.q h_items) (wp_bind hm) fun t22 v23 h24 hm => ?_))))))))
          obtain rfl := h24
          exact rd_var rfl (rd_rI0 (rd_kB (hm _ gb21))))) _ (wp_imp (wp_bind hm) (fun t25 hm H26 g27 => ?_) (fun _ e => e))
      have h_items := Ls.g0 g27 h_items
      have g0 := g0.of0' g27
      have gl7 := gl7.of0' g27
      refine iteB' (fun e28 => ?_) (fun e28 => ?_)
      · exact ifF e28 hm _ _ ⟨rfl, gl7⟩
      have hm := ifT e28 hm
      unfold m_without_end_b2 at hm
      refine ⟨N11, hW14, ?_⟩
      refine rd_asg (rd_op (rd_var rfl (rd_c (rd_rI0 (rd_gn ?_)))))
      exact hm _ _ ⟨rfl, gl7⟩
    obtain ⟨rfl, g29⟩ := hr6
    have h_items := Ls.gA g29 nin0 h_items
    have g0 := Gr.of0' g0 g29
    refine rd_ret (rd_cb (rd_cons (rd_sl (rd_var rfl (rd_np (rd_part (rd_var rfl (rd_kI (cut_L (K := K) (Ls.q h_items) fun p30 H31 n32 g33 h34 => ?_)))))))))
    have ne35 : p_items ≠ p30 := Ls.ne h_items n32
    have nw36 := Gr.free g0 n32
    have h_items := Ls.g0 g33 h_items
    have g0 := g0.of0' g33
    refine rd_nil (tup_of_L (K := K) (Ls.q h34) fun v37 H38 g39 h40 => ?_)
    have h_items := Ls.g0 g39 h_items
    have g0 := g0.of0' g39
    exact hm _ _ g0 h40

abbrev s_trimmed : Stmt := topS 10
abbrev n_trimmed : List Str := ["row", "p", "item"]
theorem sc_trimmed : FnScope n_trimmed ["row", "p"] (defScope s_trimmed) := ⟨rfl, rfl, rfl, by decide +kernel, rfl, by decide +kernel, by decide +kernel⟩
def m_trimmed_b1 (a_p : Int) (s12 : List Int) (x13 : Int) : R (List Int) :=
  grd (0 < a_p) <| grd (lenLt s12) <| R.ok (s12 ++ [(x13 % a_p)])
def m_trimmed (a_row : (List Int)) (a_p : Int) : R (List Int) :=
  (foldR (m_trimmed_b1 a_p) ([]) a_row).bind fun s19 => (m_without_end s19 (0 : Int)).bind fun t32 => R.ok t32
def sp_trimmed (K : PySem.W.Frag) : Sp := fun vs H Q _ => ∃ (a_row : (List Int)) (v_row : V) (a_p : Int), vs = [v_row, (.int a_p)] ∧ (rZ rI) H a_row v_row ∧ wp (m_trimmed a_row a_p) (fun r => ∀ v H', Gr [] H H' → (rT K rI) H' r v → Q v H') (fun _ => False)
theorem ok_trimmed {P : Program} {w : World} {K : PySem.W.Frag} {mg : Str → Option Value} {base : Heap} {f : Addr} {fd : FuncData} (F : Fun K "trimmed" "trimmed" s_trimmed f fd) (c_without_end : Cal P w K mg base CX0 1 "without_end" ["items", "zero"] (sp_without_end K)) : FnOk P w K mg base CX0 2 f fd ["row", "p"] (sp_trimmed K) := by
  obtain ⟨f_without_end, fd_without_end, G_without_end, g_without_end, k_without_end, b_without_end⟩ := c_without_end
  refine F.ok sc_trimmed (fun vs H Q E h => ?_) (fun cdv A outer s H0 vs Q E hr h => ?_)
  · obtain ⟨a_row, v_row, a_p, rfl, h_row, hm⟩ := h
    rfl
  · obtain ⟨a_row, v_row, a_p, rfl, h_row, hm⟩ := h
    have hm : wp (m_trimmed a_row a_p) _ _ := hm
    unfold m_trimmed at hm
    refine ⟨_, (pss_one (ps_ret (pe_call G_without_end (hr.mono (by decide)) (by rfl) g_without_end k_without_end b_without_end .nil pass0 (pa_cons (pe_lc (own := [("item", 2)]) (g := gName 2) (tt := tYes) rfl sc_trimmed.nd (pi_listK (K := K) (pv 0) rfl) (blkOk_by (own := [("item", 2)]) (N := n_trimmed) (sc := defScope s_trimmed) (by decide +kernel)) (fun _ _ _ _ _ => pg_name (i := 2) sc_trimmed.nd rfl (Or.inl rfl)) (fun _ _ _ _ _ => pts_nil) (fun _ _ _ _ _ => (pe_op op_mod (pv 2) (pv 1)))) (pa_cons pe_int pa_nil))))), ?_⟩
    have g0 := Gr.refl (A := []) H0
    obtain ⟨a4, ea5, vs1, hl2, hp3⟩ := rZ_q (K := K) h_row
    refine rd_ret (rd_call (rd_cons (rd_lc (rd_il (rd_var rfl ⟨_, ea5, ⟨_, hl2⟩, fun p6 n7 => ?_⟩)))))
    have nw8 := Gr.free g0 n7
    refine lc_lst (r := rI) (H1 := H0) (fun (s : List Int) (H : Hp) => Gr [] H0 H ∧ Ls rI H p6 s) hp3 (wp_bind hm) ⟨Gr.new n7, ⟨[], upd_same, .nil⟩⟩ (fun _ _ hr => by obtain ⟨g, _⟩ := hr; exact g.lst nin0 hl2) (fun x13 v14 s12 H16 N17 hx15 hr18 hm => ?_) (fun s19 H20 hr21 hm => ?_)
    · unfold m_trimmed_b1 at hm
      obtain ⟨g22, h23⟩ := hr18
      have h_row := Imm.mono g22 h_row
      have g0 := Gr.of0' g0 g22
      have gl24 := g22
      obtain rfl := hx15
      obtain ⟨c25, hm⟩ := wp_grd hm
      obtain ⟨c26, hm⟩ := wp_grd hm
      refine rd_gn ⟨rfl, rd_yes (iteT (rd_op (rd_var rfl (rd_var rfl (rd_rI c25 (lc_add h23 rfl c26 fun H27 g28 h29 => ?_))))))⟩
      have h_row := Imm.mono g28 h_row
      have g0 := Gr.loc g0 nw8 g28
      have gl24 := Gr.loc gl24 n7 g28
      exact hm _ ⟨gl24, h29⟩
    obtain ⟨g30, h31⟩ := hr21
    have h_row := Imm.mono g30 h_row
    have g0 := Gr.of0' g0 g30
    refine rd_cons (rd_c (rd_nil ⟨_, _, _, rfl, h31, wp_imp (wp_bind hm) (fun t32 hm v35 H33 g34 h36 => ?_) (fun _ e => e)⟩))
    have h_row := Imm.mono g34 h_row
    have g0 := g0.of0' g34
    exact hm _ _ g0 h36

abbrev s__law_trim : Stmt := topS 20
abbrev n__law_trim : List Str := ["row", "p", "out", "x"]
theorem sc__law_trim : FnScope n__law_trim ["row", "p"] (defScope s__law_trim) := ⟨rfl, rfl, rfl, by decide +kernel, rfl, by decide +kernel, by decide +kernel⟩
def m__law_trim_b1 (a_p : Int) (s12 : List Int) (x13 : Int) : R (List Int) :=
  grd (0 < a_p) <| grd (lenLt s12) <| R.ok (s12 ++ [(x13 % a_p)])
def m__law_trim_b2 (s39 : (List Int)) : R Bool :=
  (andR (R.ok (decide ((0 : Int) < ((s39).length : Int)))) ((getL s39 (((s39).length : Int) - (1 : Int))).bind fun t54 => R.ok (decide (t54 = (0 : Int))))).bind fun t57 => R.ok t57
def m__law_trim_b3 (s39 : (List Int)) : R ((List Int)) :=
  (popL s39).bind fun t67 => R.ok t67.2
def m__law_trim (a_row : (List Int)) (a_p : Int) : R (List Int) :=
  (foldR (m__law_trim_b1 a_p) ([]) a_row).bind fun s19 => (whileR m__law_trim_b2 m__law_trim_b3 100000 s19).bind fun s35 => R.ok s35
def sp__law_trim (K : PySem.W.Frag) : Sp := fun vs H Q _ => ∃ (a_row : (List Int)) (v_row : V) (a_p : Int), vs = [v_row, (.int a_p)] ∧ (rZ rI) H a_row v_row ∧ wp (m__law_trim a_row a_p) (fun r => ∀ v H', Gr [] H H' → (rT K rI) H' r v → Q v H') (fun _ => False)
theorem ok__law_trim {P : Program} {w : World} {K : PySem.W.Frag} {mg : Str → Option Value} {base : Heap} {f : Addr} {fd : FuncData} (F : Fun K "_law_trim" "_law_trim" s__law_trim f fd) (z_len : mg "len" = none) (z_tuple : mg "tuple" = none) : FnOk P w K mg base CX0 1 f fd ["row", "p"] (sp__law_trim K) := by
  refine F.ok sc__law_trim (fun vs H Q E h => ?_) (fun cdv A outer s H0 vs Q E hr h => ?_)
  · obtain ⟨a_row, v_row, a_p, rfl, h_row, hm⟩ := h
    rfl
  · obtain ⟨a_row, v_row, a_p, rfl, h_row, hm⟩ := h
    have hm : wp (m__law_trim a_row a_p) _ _ := hm
    unfold m__law_trim at hm
    refine ⟨_, (pss_cons (ps_setLc (i := 2) (own := [("x", 3)]) (g := gName 3) (tt := tYes) rfl sc__law_trim.nd rfl rfl (sw_true rfl rfl rfl (by decide +kernel)) (pi_listK (K := K) (pv 0) rfl) (blkOk_by (own := [("x", 3)]) (N := n__law_trim) (sc := defScope s__law_trim) (by decide +kernel)) (fun _ _ _ _ _ => pg_name (i := 3) sc__law_trim.nd rfl (Or.inl rfl)) (fun _ _ _ _ _ => pts_nil) (fun _ _ _ _ _ => (pe_op op_mod (pv 3) (pv 1)))) (pss_cons (ps_while PassesOwn.never (PW.pt (pw_and (pt_cmpR op_gt (pe_callB (lenK (K := K) rfl) (by rfl) z_len PySem.boot_len (pa_cons (pv 2) pa_nil)) pe_int (nomark _)) (pw_and1 (pt_cmpR op_eqI (pe_ix (ix_listK (K := K) rfl) (pv 2) (pe_op op_sub (pe_callB (lenK (K := K) rfl) (by rfl) z_len PySem.boot_len (pa_cons (pv 2) pa_nil)) pe_int) (fun _ _ => rfl)) pe_int (nomark _))))) (pss_one (ps_expr (pe_bm0 PySem.F.plainAttrs_list PySem.F.slot_list_pop PySem.F.type_list_pop mt_pop (pv 2))))) (pss_one (ps_ret (pe_callTy (tupleK (K := K) rfl) (by rfl) z_tuple (by decide +kernel) (pa_cons (pv 2) pa_nil)))))), ?_⟩
    have g0 := Gr.refl (A := []) H0
    obtain ⟨a4, ea5, vs1, hl2, hp3⟩ := rZ_q (K := K) h_row
    refine rd_seq (rd_asg (rd_lc (rd_il (rd_var rfl ⟨_, ea5, ⟨_, hl2⟩, fun p6 n7 => ?_⟩))))
    have nw8 := Gr.free g0 n7
    refine lc_lst (r := rI) (H1 := H0) (fun (s : List Int) (H : Hp) => Gr [] H0 H ∧ Ls rI H p6 s) hp3 (wp_bind hm) ⟨Gr.new n7, ⟨[], upd_same, .nil⟩⟩ (fun _ _ hr => by obtain ⟨g, _⟩ := hr; exact g.lst nin0 hl2) (fun x13 v14 s12 H16 N17 hx15 hr18 hm => ?_) (fun s19 H20 hr21 hm => ?_)
    · unfold m__law_trim_b1 at hm
      obtain ⟨g22, h23⟩ := hr18
      have h_row := Imm.mono g22 h_row
      have g0 := Gr.of0' g0 g22
      have gl24 := g22
      obtain rfl := hx15
      obtain ⟨c25, hm⟩ := wp_grd hm
      obtain ⟨c26, hm⟩ := wp_grd hm
      refine rd_gn ⟨rfl, rd_yes (iteT (rd_op (rd_var rfl (rd_var rfl (rd_rI c25 (lc_add h23 rfl c26 fun H27 g28 h29 => ?_))))))⟩
      have h_row := Imm.mono g28 h_row
      have g0 := Gr.loc g0 nw8 g28
      have gl24 := Gr.loc gl24 n7 g28
      exact hm _ ⟨gl24, h29⟩
    obtain ⟨g30, h31⟩ := hr21
    have h_row := Imm.mono g30 h_row
    have g0 := Gr.of0' g0 g30
    refine rd_gn ?_
    refine rd_nx ?_
    refine seq_join (t := tWhile _ _) (wp_bind hm) (fun (s : (List Int)) (σ : L2.St) (H : Hp) => σ = [some v_row, some (.int a_p), some (.ref p6), none] ∧ Gr [p6] H20 H ∧ Ls rI H p6 s) (fun N33 hN34 hm => ?_) (fun s35 σ H36 hr37 hm => ?_)
    · have gl38 := Gr.refl (A := [p6]) H20
      refine whl_R (fun (s : (List Int)) (σ : L2.St) (H : Hp) => σ = [some v_row, some (.int a_p), some (.ref p6), none] ∧ Gr [p6] H20 H ∧ Ls rI H p6 s) (by exact wp_N hm (fun s σ' H' hr hz => hN34 s σ' H' hr hz)) ⟨rfl, gl38, h31⟩ (fun s39 σ H40 N42 W43 m44 hW45 hr41 hm => ?_)
      unfold m__law_trim_b2 at hm
      obtain ⟨rfl, g48, h49⟩ := hr41
      have g0 := Gr.many g0 (all1 ((.inr nw8)) all0) g48
      have gl38 := Gr.many gl38 (all1 ((.inl (by simp))) all0) g48
      refine (ev_and (fun Q hm => by
          have gb50 := Gr.refl (A := []) H40
          exact rd_T (rd_op (rd_cb (rd_cons (rd_var rfl (rd_nil (len_L (Ls.q h49) (rd_c (rd_rI0 (rd_kB (hm _ gb50))))))))))) (fun H51 g52 Q hm => by
          have h49 := Ls.g0 g52 h49
          have g0 := g0.of0' g52
          have gl38 := gl38.of0' g52
          have gb53 := Gr.refl (A := []) H51
          refine rd_T (rd_op (rd_op (rd_var rfl (rd_op (rd_cb (rd_cons (rd_var rfl (rd_nil (len_L (Ls.q h49) (rd_c (rd_rI0 (ix_L (Ls.q h49) (wp_bind hm) fun t54 v55 h56 hm => ?_))))))))))))
          obtain rfl := h56
          exact rd_c (rd_rI0 (rd_kB (hm _ gb53))))) _ (wp_imp (wp_bind hm) (fun t57 hm H58 g59 => ?_) (fun _ e => e))
      have h49 := Ls.g0 g59 h49
      have g0 := g0.of0' g59
      have gl38 := gl38.of0' g59
      refine iteB' (fun e60 => ?_) (fun e60 => ?_)
      · exact ifF e60 hm _ _ ⟨rfl, gl38, h49⟩
      have hm := ifT e60 hm
      unfold m__law_trim_b3 at hm
      refine ⟨N42, hW45, ?_⟩
      refine rd_drop (rd_bm0 (rd_var rfl ⟨(Ls.ty h49), rd_pop h49 (wp_bind hm) fun t67 v62 H64 g65 h66 h63 hm => ?_⟩))
      have g0 := Gr.loc g0 nw8 g65
      have gl38 := Gr.at1 gl38 (by simp) g65
      obtain rfl := h63
      exact hm _ _ ⟨rfl, gl38, h66⟩
    obtain ⟨rfl, g68, h69⟩ := hr37
    have g0 := Gr.many g0 (all1 ((.inr nw8)) all0) g68
    refine rd_ret (rd_cb (rd_cons (rd_var rfl (rd_nil (tup_of_L (K := K) (Ls.q h69) fun v70 H71 g72 h73 => ?_)))))
    have h69 := Ls.g0 g72 h69
    have g0 := g0.of0' g72
    exact hm _ _ g0 h73

abbrev s_trimmed_2 : Stmt := topS 10
abbrev n_trimmed_2 : List Str := ["row", "p", "item"]
theorem sc_trimmed_2 : FnScope n_trimmed_2 ["row", "p"] (defScope s_trimmed_2) := ⟨rfl, rfl, rfl, by decide +kernel, rfl, by decide +kernel, by decide +kernel⟩
def m_trimmed_2_b1 (a_p : Int) (s12 : List Int) (x13 : Int) : R (List Int) :=
  grd (0 < a_p) <| grd (lenLt s12) <| R.ok (s12 ++ [(x13 % a_p)])
def m_trimmed_2 (a_row : (List Int)) (a_p : Int) : R (List Int) :=
  (foldR (m_trimmed_2_b1 a_p) ([]) a_row).bind fun s19 => (m_without_end s19 (0 : Int)).bind fun t32 => R.ok t32
def sp_trimmed_2 (K : PySem.W.Frag) : Sp := fun vs H Q _ => ∃ (a_row : (List Int)) (v_row : V) (a_p : Int), vs = [v_row, (.int a_p)] ∧ (rT K rI) H a_row v_row ∧ wp (m_trimmed_2 a_row a_p) (fun r => ∀ v H', Gr [] H H' → (rT K rI) H' r v → Q v H') (fun _ => False)
theorem ok_trimmed_2 {P : Program} {w : World} {K : PySem.W.Frag} {mg : Str → Option Value} {base : Heap} {f : Addr} {fd : FuncData} (F : Fun K "trimmed" "trimmed" s_trimmed_2 f fd) (c_without_end : Cal P w K mg base CX0 1 "without_end" ["items", "zero"] (sp_without_end K)) : FnOk P w K mg base CX0 2 f fd ["row", "p"] (sp_trimmed_2 K) := by
  obtain ⟨f_without_end, fd_without_end, G_without_end, g_without_end, k_without_end, b_without_end⟩ := c_without_end
  refine F.ok sc_trimmed_2 (fun vs H Q E h => ?_) (fun cdv A outer s H0 vs Q E hr h => ?_)
  · obtain ⟨a_row, v_row, a_p, rfl, h_row, hm⟩ := h
    rfl
  · obtain ⟨a_row, v_row, a_p, rfl, h_row, hm⟩ := h
    have hm : wp (m_trimmed_2 a_row a_p) _ _ := hm
    unfold m_trimmed_2 at hm
    refine ⟨_, (pss_one (ps_ret (pe_call G_without_end (hr.mono (by decide)) (by rfl) g_without_end k_without_end b_without_end .nil pass0 (pa_cons (pe_lc (own := [("item", 2)]) (g := gName 2) (tt := tYes) rfl sc_trimmed_2.nd (pi_tupK (K := K) (pv 0) rfl) (blkOk_by (own := [("item", 2)]) (N := n_trimmed_2) (sc := defScope s_trimmed_2) (by decide +kernel)) (fun _ _ _ _ _ => pg_name (i := 2) sc_trimmed_2.nd rfl (Or.inl rfl)) (fun _ _ _ _ _ => pts_nil) (fun _ _ _ _ _ => (pe_op op_mod (pv 2) (pv 1)))) (pa_cons pe_int pa_nil))))), ?_⟩
    have g0 := Gr.refl (A := []) H0
    obtain ⟨a4, ea5, vs1, hl2, hp3⟩ := id h_row
    refine rd_ret (rd_call (rd_cons (rd_lc (rd_it (rd_var rfl ⟨_, ea5, ⟨_, hl2⟩, fun p6 n7 => ?_⟩)))))
    have nw8 := Gr.free g0 n7
    refine lc_tup (r := rI) (H1 := H0) (fun (s : List Int) (H : Hp) => Gr [] H0 H ∧ Ls rI H p6 s) hp3 (wp_bind hm) ⟨Gr.new n7, ⟨[], upd_same, .nil⟩⟩ (fun _ _ hr => by obtain ⟨g, _⟩ := hr; exact g.tup hl2) (fun x13 v14 s12 H16 N17 hx15 hr18 hm => ?_) (fun s19 H20 hr21 hm => ?_)
    · unfold m_trimmed_2_b1 at hm
      obtain ⟨g22, h23⟩ := hr18
      have h_row := Imm.mono g22 h_row
      have g0 := Gr.of0' g0 g22
      have gl24 := g22
      obtain rfl := hx15
      obtain ⟨c25, hm⟩ := wp_grd hm
      obtain ⟨c26, hm⟩ := wp_grd hm
      refine rd_gn ⟨rfl, rd_yes (iteT (rd_op (rd_var rfl (rd_var rfl (rd_rI c25 (lc_add h23 rfl c26 fun H27 g28 h29 => ?_))))))⟩
      have h_row := Imm.mono g28 h_row
      have g0 := Gr.loc g0 nw8 g28
      have gl24 := Gr.loc gl24 n7 g28
      exact hm _ ⟨gl24, h29⟩
    obtain ⟨g30, h31⟩ := hr21
    have h_row := Imm.mono g30 h_row
    have g0 := Gr.of0' g0 g30
    refine rd_cons (rd_c (rd_nil ⟨_, _, _, rfl, h31, wp_imp (wp_bind hm) (fun t32 hm v35 H33 g34 h36 => ?_) (fun _ e => e)⟩))
    have h_row := Imm.mono g34 h_row
    have g0 := g0.of0' g34
    exact hm _ _ g0 h36

abbrev s_filled_up : Stmt := topS 9
abbrev n_filled_up : List Str := ["items", "length", "zero"]
theorem sc_filled_up : FnScope n_filled_up ["items", "length", "zero"] (defScope s_filled_up) := ⟨rfl, rfl, rfl, by decide +kernel, rfl, by decide +kernel, by decide +kernel⟩
def m_filled_up (a_items : (List Int)) (a_length : Int) (a_zero : Int) : R (List Int) :=
  grd (([a_zero]).isEmpty = false) <| grd (repOk ([a_zero]) (a_length - ((a_items).length : Int))) <| grd (lenOk (a_items ++ (repL ([a_zero]) (a_length - ((a_items).length : Int))))) <| R.ok (a_items ++ (repL ([a_zero]) (a_length - ((a_items).length : Int))))
def sp_filled_up (K : PySem.W.Frag) : Sp := fun vs H Q _ => ∃ (a_items : (List Int)) (v_items : V) (a_length : Int) (a_zero : Int), vs = [v_items, (.int a_length), (.int a_zero)] ∧ (rT K rI) H a_items v_items ∧ wp (m_filled_up a_items a_length a_zero) (fun r => ∀ v H', Gr [] H H' → (rT K rI) H' r v → Q v H') (fun _ => False)
theorem ok_filled_up {P : Program} {w : World} {K : PySem.W.Frag} {mg : Str → Option Value} {base : Heap} {f : Addr} {fd : FuncData} (F : Fun K "filled_up" "filled_up" s_filled_up f fd) (z_tuple : mg "tuple" = none) (z_len : mg "len" = none) : FnOk P w K mg base CX0 1 f fd ["items", "length", "zero"] (sp_filled_up K) := by
  refine F.ok sc_filled_up (fun vs H Q E h => ?_) (fun cdv A outer s H0 vs Q E hr h => ?_)
  · obtain ⟨a_items, v_items, a_length, a_zero, rfl, h_items, hm⟩ := h
    rfl
  · obtain ⟨a_items, v_items, a_length, a_zero, rfl, h_items, hm⟩ := h
    have hm : wp (m_filled_up a_items a_length a_zero) _ _ := hm
    unfold m_filled_up at hm
    refine ⟨_, (pss_one (ps_ret (pe_op (catAK (K := K) rfl) (pe_callTy (tupleK (K := K) rfl) (by rfl) z_tuple (by decide +kernel) (pa_cons (pv 0) pa_nil)) (pe_op (op_repA (K := K) rfl) (pe_tup (pa_cons (pv 2) pa_nil)) (pe_op op_sub (pv 1) (pe_callB (lenK (K := K) rfl) (by rfl) z_len PySem.boot_len (pa_cons (pv 0) pa_nil))))))), ?_⟩
    have g0 := Gr.refl (A := []) H0
    refine rd_ret (rd_op (rd_cb (rd_cons (rd_var rfl (rd_nil (tup_of_T h_items (rd_op (rd_tup (rd_cons (rd_var rfl (rd_nil (mk_T (K := K) (r := rI) (xs := [a_zero]) (.cons rfl .nil) (by show 1 ≤ sizeLine; decide) fun v1 H2 g3 h4 => ?_))))))))))))
    have h_items := Imm.mono g3 h_items
    have g0 := g0.of0' g3
    obtain ⟨c5, hm⟩ := wp_grd hm
    obtain ⟨c6, hm⟩ := wp_grd hm
    refine rd_op (rd_var rfl (rd_cb (rd_cons (rd_var rfl (rd_nil (len_T h_items (rd_rI0 (rep_T h4 c5 c6 fun v7 H8 g9 h10 => ?_))))))))
    have h_items := Imm.mono g9 h_items
    have g0 := g0.of0' g9
    obtain ⟨c11, hm⟩ := wp_grd hm
    refine cat_TA h_items h10 c11 fun v12 H13 g14 h15 => ?_
    have h_items := Imm.mono g14 h_items
    have g0 := g0.of0' g14
    exact hm _ _ g0 h15

abbrev s_trimmed_3 : Stmt := topS 10
abbrev n_trimmed_3 : List Str := ["row", "p", "item"]
theorem sc_trimmed_3 : FnScope n_trimmed_3 ["row", "p"] (defScope s_trimmed_3) := ⟨rfl, rfl, rfl, by decide +kernel, rfl, by decide +kernel, by decide +kernel⟩
def m_trimmed_3_b1 (a_p : Int) (s11 : List Int) (x12 : Int) : R (List Int) :=
  grd (0 < a_p) <| grd (lenLt s11) <| R.ok (s11 ++ [(x12 % a_p)])
def m_trimmed_3 (a_row : (List Int)) (a_p : Int) : R (List Int) :=
  (foldR (m_trimmed_3_b1 a_p) ([]) a_row).bind fun s18 => (m_without_end s18 (0 : Int)).bind fun t31 => R.ok t31
def sp_trimmed_3 (K : PySem.W.Frag) : Sp := fun vs H Q _ => ∃ (a_row : (List Int)) (p_row : Addr) (a_p : Int), vs = [.ref p_row, (.int a_p)] ∧ Ls rI H p_row a_row ∧ wp (m_trimmed_3 a_row a_p) (fun r => ∀ v H', Gr [] H H' → (rT K rI) H' r v → Q v H') (fun _ => False)
theorem ok_trimmed_3 {P : Program} {w : World} {K : PySem.W.Frag} {mg : Str → Option Value} {base : Heap} {f : Addr} {fd : FuncData} (F : Fun K "trimmed" "trimmed" s_trimmed_3 f fd) (c_without_end : Cal P w K mg base CX0 1 "without_end" ["items", "zero"] (sp_without_end K)) : FnOk P w K mg base CX0 2 f fd ["row", "p"] (sp_trimmed_3 K) := by
  obtain ⟨f_without_end, fd_without_end, G_without_end, g_without_end, k_without_end, b_without_end⟩ := c_without_end
  refine F.ok sc_trimmed_3 (fun vs H Q E h => ?_) (fun cdv A outer s H0 vs Q E hr h => ?_)
  · obtain ⟨a_row, p_row, a_p, rfl, h_row, hm⟩ := h
    rfl
  · obtain ⟨a_row, p_row, a_p, rfl, h_row, hm⟩ := h
    have hm : wp (m_trimmed_3 a_row a_p) _ _ := hm
    unfold m_trimmed_3 at hm
    refine ⟨_, (pss_one (ps_ret (pe_call G_without_end (hr.mono (by decide)) (by rfl) g_without_end k_without_end b_without_end .nil pass0 (pa_cons (pe_lc (own := [("item", 2)]) (g := gName 2) (tt := tYes) rfl sc_trimmed_3.nd (pi_listK (K := K) (pv 0) rfl) (blkOk_by (own := [("item", 2)]) (N := n_trimmed_3) (sc := defScope s_trimmed_3) (by decide +kernel)) (fun _ _ _ _ _ => pg_name (i := 2) sc_trimmed_3.nd rfl (Or.inl rfl)) (fun _ _ _ _ _ => pts_nil) (fun _ _ _ _ _ => (pe_op op_mod (pv 2) (pv 1)))) (pa_cons pe_int pa_nil))))), ?_⟩
    have g0 := Gr.refl (A := []) H0
    obtain ⟨vs1, hl2, hp3⟩ := id (Ls.q h_row)
    refine rd_ret (rd_call (rd_cons (rd_lc (rd_il (rd_var rfl ⟨_, rfl, ⟨_, hl2⟩, fun p4 n5 => ?_⟩)))))
    have ne6 : p_row ≠ p4 := Ls.ne h_row n5
    have nw7 := Gr.free g0 n5
    refine lc_lst (r := rI) (H1 := H0) (fun (s : List Int) (H : Hp) => Gr [] H0 H ∧ Ls rI H p4 s) hp3 (wp_bind hm) ⟨Gr.new n5, ⟨[], upd_same, .nil⟩⟩ (fun _ _ hr => by obtain ⟨g, _⟩ := hr; exact g.lst nin0 hl2) (fun x12 v13 s11 H15 N16 hx14 hr17 hm => ?_) (fun s18 H19 hr20 hm => ?_)
    · unfold m_trimmed_3_b1 at hm
      obtain ⟨g21, h22⟩ := hr17
      have h_row := Ls.gA g21 nin0 h_row
      have g0 := Gr.of0' g0 g21
      have gl23 := g21
      obtain rfl := hx14
      obtain ⟨c24, hm⟩ := wp_grd hm
      obtain ⟨c25, hm⟩ := wp_grd hm
      refine rd_gn ⟨rfl, rd_yes (iteT (rd_op (rd_var rfl (rd_var rfl (rd_rI c24 (lc_add h22 rfl c25 fun H26 g27 h28 => ?_))))))⟩
      have h_row := Ls.g1 g27 ne6 h_row
      have g0 := Gr.loc g0 nw7 g27
      have gl23 := Gr.loc gl23 n5 g27
      exact hm _ ⟨gl23, h28⟩
    obtain ⟨g29, h30⟩ := hr20
    have h_row := Ls.gA g29 nin0 h_row
    have g0 := Gr.of0' g0 g29
    refine rd_cons (rd_c (rd_nil ⟨_, _, _, rfl, h30, wp_imp (wp_bind hm) (fun t31 hm v34 H32 g33 h35 => ?_) (fun _ e => e)⟩))
    have h_row := Ls.g0 g33 h_row
    have g0 := g0.of0' g33
    exact hm _ _ g0 h35

abbrev s_add_rows : Stmt := topS 11
abbrev n_add_rows : List Str := ["a", "b", "p", "length", "x", "y"]
theorem sc_add_rows : FnScope n_add_rows ["a", "b", "p"] (defScope s_add_rows) := ⟨rfl, rfl, rfl, by decide +kernel, rfl, by decide +kernel, by decide +kernel⟩
def m_add_rows_b1 (s27 : List Int) (x28 : (Int × Int)) : R (List Int) :=
  grd (lenLt s27) <| R.ok (s27 ++ [(x28.1 + x28.2)])
def m_add_rows (a_a : (List Int)) (a_b : (List Int)) (a_p : Int) : R (List Int) :=
  (m_filled_up a_a (pmax ((a_a).length : Int) ((a_b).length : Int)) (0 : Int)).bind fun t1 => (m_filled_up a_b (pmax ((a_a).length : Int) ((a_b).length : Int)) (0 : Int)).bind fun t6 => (foldR m_add_rows_b1 ([]) (t1.zip t6)).bind fun s34 => (m_trimmed_3 s34 a_p).bind fun t55 => R.ok t55
def sp_add_rows (K : PySem.W.Frag) : Sp := fun vs H Q _ => ∃ (a_a : (List Int)) (v_a : V) (a_b : (List Int)) (v_b : V) (a_p : Int), vs = [v_a, v_b, (.int a_p)] ∧ (rT K rI) H a_a v_a ∧ (rT K rI) H a_b v_b ∧ wp (m_add_rows a_a a_b a_p) (fun r => ∀ v H', Gr [] H H' → (rT K rI) H' r v → Q v H') (fun _ => False)
theorem ok_add_rows {P : Program} {w : World} {K : PySem.W.Frag} {mg : Str → Option Value} {base : Heap} {f : Addr} {fd : FuncData} (F : Fun K "add_rows" "add_rows" s_add_rows f fd) (z_len : mg "len" = none) (z_max : mg "max" = none) (z_zip : mg "zip" = none) (c_filled_up : Cal P w K mg base CX0 1 "filled_up" ["items", "length", "zero"] (sp_filled_up K)) (c_trimmed_3 : Cal P w K mg base CX0 2 "trimmed" ["row", "p"] (sp_trimmed_3 K)) : FnOk P w K mg base CX0 3 f fd ["a", "b", "p"] (sp_add_rows K) := by
  obtain ⟨f_filled_up, fd_filled_up, G_filled_up, g_filled_up, k_filled_up, b_filled_up⟩ := c_filled_up
  obtain ⟨f_trimmed_3, fd_trimmed_3, G_trimmed_3, g_trimmed_3, k_trimmed_3, b_trimmed_3⟩ := c_trimmed_3
  refine F.ok sc_add_rows (fun vs H Q E h => ?_) (fun cdv A outer s H0 vs Q E hr h => ?_)
  · obtain ⟨a_a, v_a, a_b, v_b, a_p, rfl, h_a, h_b, hm⟩ := h
    rfl
  · obtain ⟨a_a, v_a, a_b, v_b, a_p, rfl, h_a, h_b, hm⟩ := h
    have hm : wp (m_add_rows a_a a_b a_p) _ _ := hm
    unfold m_add_rows at hm
    refine ⟨_, (pss_cons (ps_set (i := 3) sc_add_rows.nd rfl (Or.inl rfl) (pe_callB (call_max2 rfl) (by rfl) z_max (by decide +kernel) (pa_cons (pe_callB (lenK (K := K) rfl) (by rfl) z_len PySem.boot_len (pa_cons (pv 0) pa_nil)) (pa_cons (pe_callB (lenK (K := K) rfl) (by rfl) z_len PySem.boot_len (pa_cons (pv 1) pa_nil)) pa_nil)))) (pss_one (ps_ret (pe_call G_trimmed_3 (hr.mono (by decide)) (by rfl) g_trimmed_3 k_trimmed_3 b_trimmed_3 .nil pass0 (pa_cons (pe_lc (own := [("x", 4), ("y", 5)]) (g := (gTup K 2 (gCons (gName 4) (gCons (gName 5) gNil)))) (tt := tYes) rfl sc_add_rows.nd (pi_zipK (K := K) (by rfl) z_zip (pa_cons (pe_call G_filled_up (hr.mono (by decide)) (by rfl) g_filled_up k_filled_up b_filled_up .nil pass0 (pa_cons (pv 0) (pa_cons (pv 3) (pa_cons pe_int pa_nil)))) (pa_cons (pe_call G_filled_up (hr.mono (by decide)) (by rfl) g_filled_up k_filled_up b_filled_up .nil pass0 (pa_cons (pv 1) (pa_cons (pv 3) (pa_cons pe_int pa_nil)))) pa_nil)) rfl) (blkOk_by (own := [("x", 4), ("y", 5)]) (N := n_add_rows) (sc := defScope s_add_rows) (by decide +kernel)) (fun _ _ _ _ _ => pg_tup rfl (pgs_cons (pg_name (i := 4) sc_add_rows.nd rfl (Or.inl rfl) (Or.inr rfl)) (pgs_cons (pg_name (i := 5) sc_add_rows.nd rfl (Or.inl rfl) (Or.inr rfl)) pgs_nil))) (fun _ _ _ _ _ => pts_nil) (fun _ _ _ _ _ => (pe_op op_add (pv 4) (pv 5)))) (pa_cons (pv 2) pa_nil)))))), ?_⟩
    have g0 := Gr.refl (A := []) H0
    refine rd_seq (rd_asg (rd_cb (rd_cons (rd_cb (rd_cons (rd_var rfl (rd_nil (len_T h_a (rd_cons (rd_cb (rd_cons (rd_var rfl (rd_nil (len_T h_b (rd_nil (rd_max (rd_gn ?_)))))))))))))))))
    refine rd_nx ?_
    refine rd_ret (rd_call (rd_cons (rd_lc (rd_izip (rd_cons (rd_call (rd_cons (rd_var rfl (rd_cons (rd_var rfl (rd_cons (rd_c (rd_nil ⟨_, _, _, _, rfl, h_a, wp_imp (wp_bind hm) (fun t1 hm v4 H2 g3 h5 => ?_) (fun _ e => e)⟩)))))))))))))
    have h_a := Imm.mono g3 h_a
    have h_b := Imm.mono g3 h_b
    have g0 := g0.of0' g3
    refine rd_cons (rd_call (rd_cons (rd_var rfl (rd_cons (rd_var rfl (rd_cons (rd_c (rd_nil ⟨_, _, _, _, rfl, h_b, wp_imp (wp_bind hm) (fun t6 hm v9 H7 g8 h10 => ?_) (fun _ e => e)⟩))))))))
    have h_a := Imm.mono g8 h_a
    have h_b := Imm.mono g8 h_b
    have h5 := Imm.mono g8 h5
    have g0 := g0.of0' g8
    obtain ⟨a11, ea15, vs12, hl13, hp14⟩ := id h5
    obtain ⟨a16, ea20, vs17, hl18, hp19⟩ := id h10
    refine rd_nil (zip_t ea15 ea20 hl13 hl18 (fun p21 n22 => ?_))
    have nw23 := Gr.free g0 n22
    refine lc_R (r := (rP K rI rI)) (H0 := H7) (H1 := H7) (wk_zipT hp14 hp19) (fun (s : List Int) (H : Hp) => Gr [] H7 H ∧ Ls rI H p21 s) (wp_bind hm) ⟨Gr.new n22, ⟨[], upd_same, .nil⟩⟩ (fun _ _ hr => by obtain ⟨g, _⟩ := hr; exact ⟨⟨g.tup hl13, g.tup hl18⟩, _, g⟩) (fun x28 v29 s27 H31 H37 N32 hr33 hg38 hx30 hm => ?_) (fun s34 H35 hr36 hm => ?_)
    · unfold m_add_rows_b1 at hm
      obtain ⟨g39, h40⟩ := hr33
      have h_a := Imm.mono g39 h_a
      have h_b := Imm.mono g39 h_b
      have g0 := Gr.of0' g0 g39
      have gl41 := g39
      have h_a := Imm.mono hg38 h_a
      have h_b := Imm.mono hg38 h_b
      have h40 := Ls.g0 hg38 h40
      have g0 := g0.of0' hg38
      have gl41 := gl41.of0' hg38
      obtain ⟨a42, x43, x44, ea48, h45, h46, h47⟩ := id hx30
      obtain rfl := h46
      obtain rfl := h47
      obtain ⟨c49, hm⟩ := wp_grd hm
      refine rd_gtE ea48 h45 rfl (rd_gc (rd_gn (rd_gc (rd_gn (rd_g0 ⟨rfl, rd_yes (iteT (rd_op (rd_var rfl (rd_var rfl (rd_rI0 (lc_add h40 rfl c49 fun H50 g51 h52 => ?_))))))⟩)))))
      have h_a := Imm.mono g51 h_a
      have h_b := Imm.mono g51 h_b
      have g0 := Gr.loc g0 nw23 g51
      have gl41 := Gr.loc gl41 n22 g51
      exact hm _ ⟨gl41, h52⟩
    obtain ⟨g53, h54⟩ := hr36
    have h_a := Imm.mono g53 h_a
    have h_b := Imm.mono g53 h_b
    have g0 := Gr.of0' g0 g53
    refine rd_cons (rd_var rfl (rd_nil ⟨_, _, _, rfl, h54, wp_imp (wp_bind hm) (fun t55 hm v58 H56 g57 h59 => ?_) (fun _ e => e)⟩))
    have h_a := Imm.mono g57 h_a
    have h_b := Imm.mono g57 h_b
    have g0 := g0.of0' g57
    exact hm _ _ g0 h59

abbrev s__law_trim_2 : Stmt := topS 20
abbrev n__law_trim_2 : List Str := ["row", "p", "out", "x"]
theorem sc__law_trim_2 : FnScope n__law_trim_2 ["row", "p"] (defScope s__law_trim_2) := ⟨rfl, rfl, rfl, by decide +kernel, rfl, by decide +kernel, by decide +kernel⟩
def m__law_trim_2_b1 (a_p : Int) (s11 : List Int) (x12 : Int) : R (List Int) :=
  grd (0 < a_p) <| grd (lenLt s11) <| R.ok (s11 ++ [(x12 % a_p)])
def m__law_trim_2_b2 (s38 : (List Int)) : R Bool :=
  (andR (R.ok (decide ((0 : Int) < ((s38).length : Int)))) ((getL s38 (((s38).length : Int) - (1 : Int))).bind fun t53 => R.ok (decide (t53 = (0 : Int))))).bind fun t56 => R.ok t56
def m__law_trim_2_b3 (s38 : (List Int)) : R ((List Int)) :=
  (popL s38).bind fun t66 => R.ok t66.2
def m__law_trim_2 (a_row : (List Int)) (a_p : Int) : R (List Int) :=
  (foldR (m__law_trim_2_b1 a_p) ([]) a_row).bind fun s18 => (whileR m__law_trim_2_b2 m__law_trim_2_b3 100000 s18).bind fun s34 => R.ok s34
def sp__law_trim_2 (K : PySem.W.Frag) : Sp := fun vs H Q _ => ∃ (a_row : (List Int)) (p_row : Addr) (a_p : Int), vs = [.ref p_row, (.int a_p)] ∧ Ls rI H p_row a_row ∧ wp (m__law_trim_2 a_row a_p) (fun r => ∀ v H', Gr [] H H' → (rT K rI) H' r v → Q v H') (fun _ => False)
theorem ok__law_trim_2 {P : Program} {w : World} {K : PySem.W.Frag} {mg : Str → Option Value} {base : Heap} {f : Addr} {fd : FuncData} (F : Fun K "_law_trim" "_law_trim" s__law_trim_2 f fd) (z_len : mg "len" = none) (z_tuple : mg "tuple" = none) : FnOk P w K mg base CX0 1 f fd ["row", "p"] (sp__law_trim_2 K) := by
  refine F.ok sc__law_trim_2 (fun vs H Q E h => ?_) (fun cdv A outer s H0 vs Q E hr h => ?_)
  · obtain ⟨a_row, p_row, a_p, rfl, h_row, hm⟩ := h
    rfl
  · obtain ⟨a_row, p_row, a_p, rfl, h_row, hm⟩ := h
    have hm : wp (m__law_trim_2 a_row a_p) _ _ := hm
    unfold m__law_trim_2 at hm
    refine ⟨_, (pss_cons (ps_setLc (i := 2) (own := [("x", 3)]) (g := gName 3) (tt := tYes) rfl sc__law_trim_2.nd rfl rfl (sw_true rfl rfl rfl (by decide +kernel)) (pi_listK (K := K) (pv 0) rfl) (blkOk_by (own := [("x", 3)]) (N := n__law_trim_2) (sc := defScope s__law_trim_2) (by decide +kernel)) (fun _ _ _ _ _ => pg_name (i := 3) sc__law_trim_2.nd rfl (Or.inl rfl)) (fun _ _ _ _ _ => pts_nil) (fun _ _ _ _ _ => (pe_op op_mod (pv 3) (pv 1)))) (pss_cons (ps_while PassesOwn.never (PW.pt (pw_and (pt_cmpR op_gt (pe_callB (lenK (K := K) rfl) (by rfl) z_len PySem.boot_len (pa_cons (pv 2) pa_nil)) pe_int (nomark _)) (pw_and1 (pt_cmpR op_eqI (pe_ix (ix_listK (K := K) rfl) (pv 2) (pe_op op_sub (pe_callB (lenK (K := K) rfl) (by rfl) z_len PySem.boot_len (pa_cons (pv 2) pa_nil)) pe_int) (fun _ _ => rfl)) pe_int (nomark _))))) (pss_one (ps_expr (pe_bm0 PySem.F.plainAttrs_list PySem.F.slot_list_pop PySem.F.type_list_pop mt_pop (pv 2))))) (pss_one (ps_ret (pe_callTy (tupleK (K := K) rfl) (by rfl) z_tuple (by decide +kernel) (pa_cons (pv 2) pa_nil)))))), ?_⟩
    have g0 := Gr.refl (A := []) H0
    obtain ⟨vs1, hl2, hp3⟩ := id (Ls.q h_row)
    refine rd_seq (rd_asg (rd_lc (rd_il (rd_var rfl ⟨_, rfl, ⟨_, hl2⟩, fun p4 n5 => ?_⟩))))
    have ne6 : p_row ≠ p4 := Ls.ne h_row n5
    have nw7 := Gr.free g0 n5
    refine lc_lst (r := rI) (H1 := H0) (fun (s : List Int) (H : Hp) => Gr [] H0 H ∧ Ls rI H p4 s) hp3 (wp_bind hm) ⟨Gr.new n5, ⟨[], upd_same, .nil⟩⟩ (fun _ _ hr => by obtain ⟨g, _⟩ := hr; exact g.lst nin0 hl2) (fun x12 v13 s11 H15 N16 hx14 hr17 hm => ?_) (fun s18 H19 hr20 hm => ?_)
    · unfold m__law_trim_2_b1 at hm
      obtain ⟨g21, h22⟩ := hr17
      have h_row := Ls.gA g21 nin0 h_row
      have g0 := Gr.of0' g0 g21
      have gl23 := g21
      obtain rfl := hx14
      obtain ⟨c24, hm⟩ := wp_grd hm
      obtain ⟨c25, hm⟩ := wp_grd hm
      refine rd_gn ⟨rfl, rd_yes (iteT (rd_op (rd_var rfl (rd_var rfl (rd_rI c24 (lc_add h22 rfl c25 fun H26 g27 h28 => ?_))))))⟩
      have h_row := Ls.g1 g27 ne6 h_row
      have g0 := Gr.loc g0 nw7 g27
      have gl23 := Gr.loc gl23 n5 g27
      exact hm _ ⟨gl23, h28⟩
    obtain ⟨g29, h30⟩ := hr20
    have h_row := Ls.gA g29 nin0 h_row
    have g0 := Gr.of0' g0 g29
    refine rd_gn ?_
    refine rd_nx ?_
    refine seq_join (t := tWhile _ _) (wp_bind hm) (fun (s : (List Int)) (σ : L2.St) (H : Hp) => σ = [some (.ref p_row), some (.int a_p), some (.ref p4), none] ∧ Gr [p4] H19 H ∧ Ls rI H p4 s) (fun N32 hN33 hm => ?_) (fun s34 σ H35 hr36 hm => ?_)
    · have gl37 := Gr.refl (A := [p4]) H19
      refine whl_R (fun (s : (List Int)) (σ : L2.St) (H : Hp) => σ = [some (.ref p_row), some (.int a_p), some (.ref p4), none] ∧ Gr [p4] H19 H ∧ Ls rI H p4 s) (by exact wp_N hm (fun s σ' H' hr hz => hN33 s σ' H' hr hz)) ⟨rfl, gl37, h30⟩ (fun s38 σ H39 N41 W42 m43 hW44 hr40 hm => ?_)
      unfold m__law_trim_2_b2 at hm
      obtain ⟨rfl, g47, h48⟩ := hr40
      have g0 := Gr.many g0 (all1 ((.inr nw7)) all0) g47
      have gl37 := Gr.many gl37 (all1 ((.inl (by simp))) all0) g47
      refine (ev_and (fun Q hm => by
          have gb49 := Gr.refl (A := []) H39
          exact rd_T (rd_op (rd_cb (rd_cons (rd_var rfl (rd_nil (len_L (Ls.q h48) (rd_c (rd_rI0 (rd_kB (hm _ gb49))))))))))) (fun H50 g51 Q hm => by
          have h48 := Ls.g0 g51 h48
          have g0 := g0.of0' g51
          have gl37 := gl37.of0' g51
          have gb52 := Gr.refl (A := []) H50
          refine rd_T (rd_op (rd_op (rd_var rfl (rd_op (rd_cb (rd_cons (rd_var rfl (rd_nil (len_L (Ls.q h48) (rd_c (rd_rI0 (ix_L (Ls.q h48) (wp_bind hm) fun t53 v54 h55 hm => ?_))))))))))))
          obtain rfl := h55
          exact rd_c (rd_rI0 (rd_kB (hm _ gb52))))) _ (wp_imp (wp_bind hm) (fun t56 hm H57 g58 => ?_) (fun _ e => e))
      have h48 := Ls.g0 g58 h48
      have g0 := g0.of0' g58
      have gl37 := gl37.of0' g58
      refine iteB' (fun e59 => ?_) (fun e59 => ?_)
      · exact ifF e59 hm _ _ ⟨rfl, gl37, h48⟩
      have hm := ifT e59 hm
      unfold m__law_trim_2_b3 at hm
      refine ⟨N41, hW44, ?_⟩
      refine rd_drop (rd_bm0 (rd_var rfl ⟨(Ls.ty h48), rd_pop h48 (wp_bind hm) fun t66 v61 H63 g64 h65 h62 hm => ?_⟩))
      have g0 := Gr.loc g0 nw7 g64
      have gl37 := Gr.at1 gl37 (by simp) g64
      obtain rfl := h62
      exact hm _ _ ⟨rfl, gl37, h65⟩
    obtain ⟨rfl, g67, h68⟩ := hr36
    have g0 := Gr.many g0 (all1 ((.inr nw7)) all0) g67
    refine rd_ret (rd_cb (rd_cons (rd_var rfl (rd_nil (tup_of_L (K := K) (Ls.q h68) fun v69 H70 g71 h72 => ?_)))))
    have h68 := Ls.g0 g71 h68
    have g0 := g0.of0' g71
    exact hm _ _ g0 h72

abbrev s_filled_up_2 : Stmt := topS 9
abbrev n_filled_up_2 : List Str := ["items", "length", "zero"]
theorem sc_filled_up_2 : FnScope n_filled_up_2 ["items", "length", "zero"] (defScope s_filled_up_2) := ⟨rfl, rfl, rfl, by decide +kernel, rfl, by decide +kernel, by decide +kernel⟩
def m_filled_up_2 (a_items : (List Int)) (a_length : Int) (a_zero : Int) : R (List Int) :=
  grd (([a_zero]).isEmpty = false) <| grd (repOk ([a_zero]) (a_length - ((a_items).length : Int))) <| grd (lenOk (a_items ++ (repL ([a_zero]) (a_length - ((a_items).length : Int))))) <| R.ok (a_items ++ (repL ([a_zero]) (a_length - ((a_items).length : Int))))
def sp_filled_up_2 (K : PySem.W.Frag) : Sp := fun vs H Q _ => ∃ (a_items : (List Int)) (p_items : Addr) (a_length : Int) (a_zero : Int), vs = [.ref p_items, (.int a_length), (.int a_zero)] ∧ Ls rI H p_items a_items ∧ wp (m_filled_up_2 a_items a_length a_zero) (fun r => ∀ v H', Gr [] H H' → (rT K rI) H' r v → Q v H') (fun _ => False)
theorem ok_filled_up_2 {P : Program} {w : World} {K : PySem.W.Frag} {mg : Str → Option Value} {base : Heap} {f : Addr} {fd : FuncData} (F : Fun K "filled_up" "filled_up" s_filled_up_2 f fd) (z_tuple : mg "tuple" = none) (z_len : mg "len" = none) : FnOk P w K mg base CX0 1 f fd ["items", "length", "zero"] (sp_filled_up_2 K) := by
  refine F.ok sc_filled_up_2 (fun vs H Q E h => ?_) (fun cdv A outer s H0 vs Q E hr h => ?_)
  · obtain ⟨a_items, p_items, a_length, a_zero, rfl, h_items, hm⟩ := h
    rfl
  · obtain ⟨a_items, p_items, a_length, a_zero, rfl, h_items, hm⟩ := h
    have hm : wp (m_filled_up_2 a_items a_length a_zero) _ _ := hm
    unfold m_filled_up_2 at hm
    refine ⟨_, (pss_one (ps_ret (pe_op (catAK (K := K) rfl) (pe_callTy (tupleK (K := K) rfl) (by rfl) z_tuple (by decide +kernel) (pa_cons (pv 0) pa_nil)) (pe_op (op_repA (K := K) rfl) (pe_tup (pa_cons (pv 2) pa_nil)) (pe_op op_sub (pv 1) (pe_callB (lenK (K := K) rfl) (by rfl) z_len PySem.boot_len (pa_cons (pv 0) pa_nil))))))), ?_⟩
    have g0 := Gr.refl (A := []) H0
    refine rd_ret (rd_op (rd_cb (rd_cons (rd_var rfl (rd_nil (tup_of_L (K := K) (Ls.q h_items) fun v1 H2 g3 h4 => ?_))))))
    have h_items := Ls.g0 g3 h_items
    have g0 := g0.of0' g3
    refine rd_op (rd_tup (rd_cons (rd_var rfl (rd_nil (mk_T (K := K) (r := rI) (xs := [a_zero]) (.cons rfl .nil) (by show 1 ≤ sizeLine; decide) fun v5 H6 g7 h8 => ?_)))))
    have h_items := Ls.g0 g7 h_items
    have h4 := Imm.mono g7 h4
    have g0 := g0.of0' g7
    obtain ⟨c9, hm⟩ := wp_grd hm
    obtain ⟨c10, hm⟩ := wp_grd hm
    refine rd_op (rd_var rfl (rd_cb (rd_cons (rd_var rfl (rd_nil (len_L (Ls.q h_items) (rd_rI0 (rep_T h8 c9 c10 fun v11 H12 g13 h14 => ?_))))))))
    have h_items := Ls.g0 g13 h_items
    have h4 := Imm.mono g13 h4
    have g0 := g0.of0' g13
    obtain ⟨c15, hm⟩ := wp_grd hm
    refine cat_TA h4 h14 c15 fun v16 H17 g18 h19 => ?_
    have h_items := Ls.g0 g18 h_items
    have g0 := g0.of0' g18
    exact hm _ _ g0 h19

abbrev s_add_rows_2 : Stmt := topS 11
abbrev n_add_rows_2 : List Str := ["a", "b", "p", "length", "x", "y"]
theorem sc_add_rows_2 : FnScope n_add_rows_2 ["a", "b", "p"] (defScope s_add_rows_2) := ⟨rfl, rfl, rfl, by decide +kernel, rfl, by decide +kernel, by decide +kernel⟩
def m_add_rows_2_b1 (s28 : List Int) (x29 : (Int × Int)) : R (List Int) :=
  grd (lenLt s28) <| R.ok (s28 ++ [(x29.1 + x29.2)])
def m_add_rows_2 (a_a : (List Int)) (a_b : (List Int)) (a_p : Int) : R (List Int) :=
  (m_filled_up a_a (pmax ((a_a).length : Int) ((a_b).length : Int)) (0 : Int)).bind fun t1 => (m_filled_up_2 a_b (pmax ((a_a).length : Int) ((a_b).length : Int)) (0 : Int)).bind fun t6 => (foldR m_add_rows_2_b1 ([]) (t1.zip t6)).bind fun s35 => (m_trimmed_3 s35 a_p).bind fun t56 => R.ok t56
def sp_add_rows_2 (K : PySem.W.Frag) : Sp := fun vs H Q _ => ∃ (a_a : (List Int)) (v_a : V) (a_b : (List Int)) (p_b : Addr) (a_p : Int), vs = [v_a, .ref p_b, (.int a_p)] ∧ (rT K rI) H a_a v_a ∧ Ls rI H p_b a_b ∧ wp (m_add_rows_2 a_a a_b a_p) (fun r => ∀ v H', Gr [] H H' → (rT K rI) H' r v → Q v H') (fun _ => False)
theorem ok_add_rows_2 {P : Program} {w : World} {K : PySem.W.Frag} {mg : Str → Option Value} {base : Heap} {f : Addr} {fd : FuncData} (F : Fun K "add_rows" "add_rows" s_add_rows_2 f fd) (z_len : mg "len" = none) (z_max : mg "max" = none) (z_zip : mg "zip" = none) (c_filled_up : Cal P w K mg base CX0 1 "filled_up" ["items", "length", "zero"] (sp_filled_up K)) (c_filled_up_2 : Cal P w K mg base CX0 1 "filled_up" ["items", "length", "zero"] (sp_filled_up_2 K)) (c_trimmed_3 : Cal P w K mg base CX0 2 "trimmed" ["row", "p"] (sp_trimmed_3 K)) : FnOk P w K mg base CX0 3 f fd ["a", "b", "p"] (sp_add_rows_2 K) := by
  obtain ⟨f_filled_up, fd_filled_up, G_filled_up, g_filled_up, k_filled_up, b_filled_up⟩ := c_filled_up
  obtain ⟨f_filled_up_2, fd_filled_up_2, G_filled_up_2, g_filled_up_2, k_filled_up_2, b_filled_up_2⟩ := c_filled_up_2
  obtain ⟨f_trimmed_3, fd_trimmed_3, G_trimmed_3, g_trimmed_3, k_trimmed_3, b_trimmed_3⟩ := c_trimmed_3
  refine F.ok sc_add_rows_2 (fun vs H Q E h => ?_) (fun cdv A outer s H0 vs Q E hr h => ?_)
  · obtain ⟨a_a, v_a, a_b, p_b, a_p, rfl, h_a, h_b, hm⟩ := h
    rfl
  · obtain ⟨a_a, v_a, a_b, p_b, a_p, rfl, h_a, h_b, hm⟩ := h
    have hm : wp (m_add_rows_2 a_a a_b a_p) _ _ := hm
    unfold m_add_rows_2 at hm
    refine ⟨_, (pss_cons (ps_set (i := 3) sc_add_rows_2.nd rfl (Or.inl rfl) (pe_callB (call_max2 rfl) (by rfl) z_max (by decide +kernel) (pa_cons (pe_callB (lenK (K := K) rfl) (by rfl) z_len PySem.boot_len (pa_cons (pv 0) pa_nil)) (pa_cons (pe_callB (lenK (K := K) rfl) (by rfl) z_len PySem.boot_len (pa_cons (pv 1) pa_nil)) pa_nil)))) (pss_one (ps_ret (pe_call G_trimmed_3 (hr.mono (by decide)) (by rfl) g_trimmed_3 k_trimmed_3 b_trimmed_3 .nil pass0 (pa_cons (pe_lc (own := [("x", 4), ("y", 5)]) (g := (gTup K 2 (gCons (gName 4) (gCons (gName 5) gNil)))) (tt := tYes) rfl sc_add_rows_2.nd (pi_zipK (K := K) (by rfl) z_zip (pa_cons (pe_call G_filled_up (hr.mono (by decide)) (by rfl) g_filled_up k_filled_up b_filled_up .nil pass0 (pa_cons (pv 0) (pa_cons (pv 3) (pa_cons pe_int pa_nil)))) (pa_cons (pe_call G_filled_up_2 (hr.mono (by decide)) (by rfl) g_filled_up_2 k_filled_up_2 b_filled_up_2 .nil pass0 (pa_cons (pv 1) (pa_cons (pv 3) (pa_cons pe_int pa_nil)))) pa_nil)) rfl) (blkOk_by (own := [("x", 4), ("y", 5)]) (N := n_add_rows_2) (sc := defScope s_add_rows_2) (by decide +kernel)) (fun _ _ _ _ _ => pg_tup rfl (pgs_cons (pg_name (i := 4) sc_add_rows_2.nd rfl (Or.inl rfl) (Or.inr rfl)) (pgs_cons (pg_name (i := 5) sc_add_rows_2.nd rfl (Or.inl rfl) (Or.inr rfl)) pgs_nil))) (fun _ _ _ _ _ => pts_nil) (fun _ _ _ _ _ => (pe_op op_add (pv 4) (pv 5)))) (pa_cons (pv 2) pa_nil)))))), ?_⟩
    have g0 := Gr.refl (A := []) H0
    refine rd_seq (rd_asg (rd_cb (rd_cons (rd_cb (rd_cons (rd_var rfl (rd_nil (len_T h_a (rd_cons (rd_cb (rd_cons (rd_var rfl (rd_nil (len_L (Ls.q h_b) (rd_nil (rd_max (rd_gn ?_)))))))))))))))))
    refine rd_nx ?_
    refine rd_ret (rd_call (rd_cons (rd_lc (rd_izip (rd_cons (rd_call (rd_cons (rd_var rfl (rd_cons (rd_var rfl (rd_cons (rd_c (rd_nil ⟨_, _, _, _, rfl, h_a, wp_imp (wp_bind hm) (fun t1 hm v4 H2 g3 h5 => ?_) (fun _ e => e)⟩)))))))))))))
    have h_a := Imm.mono g3 h_a
    have h_b := Ls.g0 g3 h_b
    have g0 := g0.of0' g3
    refine rd_cons (rd_call (rd_cons (rd_var rfl (rd_cons (rd_var rfl (rd_cons (rd_c (rd_nil ⟨_, _, _, _, rfl, h_b, wp_imp (wp_bind hm) (fun t6 hm v9 H7 g8 h10 => ?_) (fun _ e => e)⟩))))))))
    have h_a := Imm.mono g8 h_a
    have h_b := Ls.g0 g8 h_b
    have h5 := Imm.mono g8 h5
    have g0 := g0.of0' g8
    obtain ⟨a11, ea15, vs12, hl13, hp14⟩ := id h5
    obtain ⟨a16, ea20, vs17, hl18, hp19⟩ := id h10
    refine rd_nil (zip_t ea15 ea20 hl13 hl18 (fun p21 n22 => ?_))
    have ne23 : p_b ≠ p21 := Ls.ne h_b n22
    have nw24 := Gr.free g0 n22
    refine lc_R (r := (rP K rI rI)) (H0 := H7) (H1 := H7) (wk_zipT hp14 hp19) (fun (s : List Int) (H : Hp) => Gr [] H7 H ∧ Ls rI H p21 s) (wp_bind hm) ⟨Gr.new n22, ⟨[], upd_same, .nil⟩⟩ (fun _ _ hr => by obtain ⟨g, _⟩ := hr; exact ⟨⟨g.tup hl13, g.tup hl18⟩, _, g⟩) (fun x29 v30 s28 H32 H38 N33 hr34 hg39 hx31 hm => ?_) (fun s35 H36 hr37 hm => ?_)
    · unfold m_add_rows_2_b1 at hm
      obtain ⟨g40, h41⟩ := hr34
      have h_a := Imm.mono g40 h_a
      have h_b := Ls.gA g40 nin0 h_b
      have g0 := Gr.of0' g0 g40
      have gl42 := g40
      have h_a := Imm.mono hg39 h_a
      have h_b := Ls.g0 hg39 h_b
      have h41 := Ls.g0 hg39 h41
      have g0 := g0.of0' hg39
      have gl42 := gl42.of0' hg39
      obtain ⟨a43, x44, x45, ea49, h46, h47, h48⟩ := id hx31
      obtain rfl := h47
      obtain rfl := h48
      obtain ⟨c50, hm⟩ := wp_grd hm
      refine rd_gtE ea49 h46 rfl (rd_gc (rd_gn (rd_gc (rd_gn (rd_g0 ⟨rfl, rd_yes (iteT (rd_op (rd_var rfl (rd_var rfl (rd_rI0 (lc_add h41 rfl c50 fun H51 g52 h53 => ?_))))))⟩)))))
      have h_a := Imm.mono g52 h_a
      have h_b := Ls.g1 g52 ne23 h_b
      have g0 := Gr.loc g0 nw24 g52
      have gl42 := Gr.loc gl42 n22 g52
      exact hm _ ⟨gl42, h53⟩
    obtain ⟨g54, h55⟩ := hr37
    have h_a := Imm.mono g54 h_a
    have h_b := Ls.gA g54 nin0 h_b
    have g0 := Gr.of0' g0 g54
    refine rd_cons (rd_var rfl (rd_nil ⟨_, _, _, rfl, h55, wp_imp (wp_bind hm) (fun t56 hm v59 H57 g58 h60 => ?_) (fun _ e => e)⟩))
    have h_a := Imm.mono g58 h_a
    have h_b := Ls.g0 g58 h_b
    have g0 := g0.of0' g58
    exact hm _ _ g0 h60

abbrev s_subtract_rows : Stmt := topS 12
abbrev n_subtract_rows : List Str := ["a", "b", "p", "item"]
theorem sc_subtract_rows : FnScope n_subtract_rows ["a", "b", "p"] (defScope s_subtract_rows) := ⟨rfl, rfl, rfl, by decide +kernel, rfl, by decide +kernel, by decide +kernel⟩
def m_subtract_rows_b1 (s12 : List Int) (x13 : Int) : R (List Int) :=
  grd (lenLt s12) <| R.ok (s12 ++ [(-x13)])
def m_subtract_rows (a_a : (List Int)) (a_b : (List Int)) (a_p : Int) : R (List Int) :=
  (foldR m_subtract_rows_b1 ([]) a_b).bind fun s19 => (m_add_rows_2 a_a s19 a_p).bind fun t31 => R.ok t31
def sp_subtract_rows (K : PySem.W.Frag) : Sp := fun vs H Q _ => ∃ (a_a : (List Int)) (v_a : V) (a_b : (List Int)) (v_b : V) (a_p : Int), vs = [v_a, v_b, (.int a_p)] ∧ (rT K rI) H a_a v_a ∧ (rT K rI) H a_b v_b ∧ wp (m_subtract_rows a_a a_b a_p) (fun r => ∀ v H', Gr [] H H' → (rT K rI) H' r v → Q v H') (fun _ => False)
theorem ok_subtract_rows {P : Program} {w : World} {K : PySem.W.Frag} {mg : Str → Option Value} {base : Heap} {f : Addr} {fd : FuncData} (F : Fun K "subtract_rows" "subtract_rows" s_subtract_rows f fd) (c_add_rows_2 : Cal P w K mg base CX0 3 "add_rows" ["a", "b", "p"] (sp_add_rows_2 K)) : FnOk P w K mg base CX0 4 f fd ["a", "b", "p"] (sp_subtract_rows K) := by
  obtain ⟨f_add_rows_2, fd_add_rows_2, G_add_rows_2, g_add_rows_2, k_add_rows_2, b_add_rows_2⟩ := c_add_rows_2
  refine F.ok sc_subtract_rows (fun vs H Q E h => ?_) (fun cdv A outer s H0 vs Q E hr h => ?_)
  · obtain ⟨a_a, v_a, a_b, v_b, a_p, rfl, h_a, h_b, hm⟩ := h
    rfl
  · obtain ⟨a_a, v_a, a_b, v_b, a_p, rfl, h_a, h_b, hm⟩ := h
    have hm : wp (m_subtract_rows a_a a_b a_p) _ _ := hm
    unfold m_subtract_rows at hm
    refine ⟨_, (pss_one (ps_ret (pe_call G_add_rows_2 (hr.mono (by decide)) (by rfl) g_add_rows_2 k_add_rows_2 b_add_rows_2 .nil pass0 (pa_cons (pv 0) (pa_cons (pe_lc (own := [("item", 3)]) (g := gName 3) (tt := tYes) rfl sc_subtract_rows.nd (pi_tupK (K := K) (pv 1) rfl) (blkOk_by (own := [("item", 3)]) (N := n_subtract_rows) (sc := defScope s_subtract_rows) (by decide +kernel)) (fun _ _ _ _ _ => pg_name (i := 3) sc_subtract_rows.nd rfl (Or.inl rfl)) (fun _ _ _ _ _ => pts_nil) (fun _ _ _ _ _ => (pe_un un_neg (pv 3)))) (pa_cons (pv 2) pa_nil)))))), ?_⟩
    have g0 := Gr.refl (A := []) H0
    obtain ⟨a4, ea5, vs1, hl2, hp3⟩ := id h_b
    refine rd_ret (rd_call (rd_cons (rd_var rfl (rd_cons (rd_lc (rd_it (rd_var rfl ⟨_, ea5, ⟨_, hl2⟩, fun p6 n7 => ?_⟩)))))))
    have nw8 := Gr.free g0 n7
    refine lc_tup (r := rI) (H1 := H0) (fun (s : List Int) (H : Hp) => Gr [] H0 H ∧ Ls rI H p6 s) hp3 (wp_bind hm) ⟨Gr.new n7, ⟨[], upd_same, .nil⟩⟩ (fun _ _ hr => by obtain ⟨g, _⟩ := hr; exact g.tup hl2) (fun x13 v14 s12 H16 N17 hx15 hr18 hm => ?_) (fun s19 H20 hr21 hm => ?_)
    · unfold m_subtract_rows_b1 at hm
      obtain ⟨g22, h23⟩ := hr18
      have h_a := Imm.mono g22 h_a
      have h_b := Imm.mono g22 h_b
      have g0 := Gr.of0' g0 g22
      have gl24 := g22
      obtain rfl := hx15
      obtain ⟨c25, hm⟩ := wp_grd hm
      refine rd_gn ⟨rfl, rd_yes (iteT (rd_un (rd_var rfl (rd_rU (lc_add h23 rfl c25 fun H26 g27 h28 => ?_)))))⟩
      have h_a := Imm.mono g27 h_a
      have h_b := Imm.mono g27 h_b
      have g0 := Gr.loc g0 nw8 g27
      have gl24 := Gr.loc gl24 n7 g27
      exact hm _ ⟨gl24, h28⟩
    obtain ⟨g29, h30⟩ := hr21
    have h_a := Imm.mono g29 h_a
    have h_b := Imm.mono g29 h_b
    have g0 := Gr.of0' g0 g29
    refine rd_cons (rd_var rfl (rd_nil ⟨_, _, _, _, _, rfl, h_a, h30, wp_imp (wp_bind hm) (fun t31 hm v34 H32 g33 h35 => ?_) (fun _ e => e)⟩))
    have h_a := Imm.mono g33 h_a
    have h_b := Imm.mono g33 h_b
    have g0 := g0.of0' g33
    exact hm _ _ g0 h35

abbrev s_multiply_rows : Stmt := topS 13
abbrev n_multiply_rows : List Str := ["a", "b", "p", "products", "i", "x", "j", "y"]
theorem sc_multiply_rows : FnScope n_multiply_rows ["a", "b", "p"] (defScope s_multiply_rows) := ⟨rfl, rfl, rfl, by decide +kernel, rfl, by decide +kernel, by decide +kernel⟩
def m_multiply_rows_b1 (x35 : (Int × Int)) (s63 : (List Int)) (x73 : (Int × Int)) : R ((List Int)) :=
  (getL s63 (x35.1 + x73.1)).bind fun t90 => grd (CMul x35.2 x73.2) <| (setL s63 (x35.1 + x73.1) (t90 + (x35.2 * x73.2))).bind fun t94 => R.ok t94
def m_multiply_rows_b2 (a_b : (List Int)) (s25 : (List Int)) (x35 : (Int × Int)) : R ((List Int)) :=
  (foldR (m_multiply_rows_b1 x35) s25 (enumF a_b)).bind fun s57 => R.ok s57
def m_multiply_rows (a_a : (List Int)) (a_b : (List Int)) (a_p : Int) : R (List Int) :=
  grd (repOk ([(0 : Int)]) (((a_a).length : Int) + ((a_b).length : Int))) <| (foldR (m_multiply_rows_b2 a_b) (repL ([(0 : Int)]) (((a_a).length : Int) + ((a_b).length : Int))) (enumF a_a)).bind fun s17 => (m_trimmed_3 s17 a_p).bind fun t108 => R.ok t108
def sp_multiply_rows (K : PySem.W.Frag) : Sp := fun vs H Q _ => ∃ (a_a : (List Int)) (v_a : V) (a_b : (List Int)) (v_b : V) (a_p : Int), vs = [v_a, v_b, (.int a_p)] ∧ (rT K rI) H a_a v_a ∧ (rT K rI) H a_b v_b ∧ wp (m_multiply_rows a_a a_b a_p) (fun r => ∀ v H', Gr [] H H' → (rT K rI) H' r v → Q v H') (fun _ => False)
theorem ok_multiply_rows {P : Program} {w : World} {K : PySem.W.Frag} {mg : Str → Option Value} {base : Heap} {f : Addr} {fd : FuncData} (F : Fun K "multiply_rows" "multiply_rows" s_multiply_rows f fd) (z_len : mg "len" = none) (z_enumerate : mg "enumerate" = none) (c_trimmed_3 : Cal P w K mg base CX0 2 "trimmed" ["row", "p"] (sp_trimmed_3 K)) : FnOk P w K mg base CX0 3 f fd ["a", "b", "p"] (sp_multiply_rows K) := by
  obtain ⟨f_trimmed_3, fd_trimmed_3, G_trimmed_3, g_trimmed_3, k_trimmed_3, b_trimmed_3⟩ := c_trimmed_3
  refine F.ok sc_multiply_rows (fun vs H Q E h => ?_) (fun cdv A outer s H0 vs Q E hr h => ?_)
  · obtain ⟨a_a, v_a, a_b, v_b, a_p, rfl, h_a, h_b, hm⟩ := h
    rfl
  · obtain ⟨a_a, v_a, a_b, v_b, a_p, rfl, h_a, h_b, hm⟩ := h
    have hm : wp (m_multiply_rows a_a a_b a_p) _ _ := hm
    unfold m_multiply_rows at hm
    refine ⟨_, (pss_cons (ps_set (i := 3) sc_multiply_rows.nd rfl (Or.inl rfl) (pe_op op_rep (pe_lst (pa_cons pe_int pa_nil)) (pe_op op_add (pe_callB (lenK (K := K) rfl) (by rfl) z_len PySem.boot_len (pa_cons (pv 0) pa_nil)) (pe_callB (lenK (K := K) rfl) (by rfl) z_len PySem.boot_len (pa_cons (pv 1) pa_nil))))) (pss_cons (ps_for PassesOwn.never rfl (pi_enumT (K := K) (by rfl) z_enumerate (pa_cons (pv 0) pa_nil) rfl) (pg_tup rfl (pgs_cons (pg_name (i := 4) sc_multiply_rows.nd rfl (Or.inl rfl)) (pgs_cons (pg_name (i := 5) sc_multiply_rows.nd rfl (Or.inl rfl)) pgs_nil))) (pss_one (ps_for PassesOwn.never rfl (pi_enumT (K := K) (by rfl) z_enumerate (pa_cons (pv 1) pa_nil) rfl) (pg_tup rfl (pgs_cons (pg_name (i := 6) sc_multiply_rows.nd rfl (Or.inl rfl)) (pgs_cons (pg_name (i := 7) sc_multiply_rows.nd rfl (Or.inl rfl)) pgs_nil))) (pss_one (ps_asg (pe_op op_add (pe_ix (ix_listK (K := K) rfl) (pv 3) (pe_op op_add (pv 4) (pv 6)) (fun _ _ => rfl)) (pe_op op_mul (pv 5) (pv 7))) (pg_sub (pv 3) (pe_op op_add (pv 4) (pv 6)) set_list)))))) (pss_one (ps_ret (pe_call G_trimmed_3 (hr.mono (by decide)) (by rfl) g_trimmed_3 k_trimmed_3 b_trimmed_3 .nil pass0 (pa_cons (pv 3) (pa_cons (pv 2) pa_nil))))))), ?_⟩
    have g0 := Gr.refl (A := []) H0
    refine rd_seq (rd_asg (rd_op (rd_lst (rd_cons (rd_c (rd_nil (mk_L (r := rI) (xs := [(0 : Int)]) (.cons rfl .nil) (by show 1 ≤ sizeLine; decide) fun p1 H2 n3 g4 h5 => ?_)))))))
    have nw6 := Gr.free g0 n3
    have h_a := Imm.mono g4 h_a
    have h_b := Imm.mono g4 h_b
    have g0 := g0.of0' g4
    obtain ⟨c7, hm⟩ := wp_grd hm
    refine rd_op (rd_cb (rd_cons (rd_var rfl (rd_nil (len_T h_a (rd_cb (rd_cons (rd_var rfl (rd_nil (len_T h_b (rd_rI0 (rep_L h5 c7 fun p8 H9 n10 g11 h12 => ?_))))))))))))
    have nw13 := Gr.free g0 n10
    have h_a := Imm.mono g11 h_a
    have h_b := Imm.mono g11 h_b
    have g0 := g0.of0' g11
    refine rd_gn ?_
    refine rd_nx ?_
    refine seq_join (t := tFor _ _ _) (wp_bind hm) (fun (s : (List Int)) (σ : L2.St) (H : Hp) => ∃ (o21 : Option V) (o22 : Option V) (o23 : Option V) (o24 : Option V), σ = [some v_a, some v_b, some (.int a_p), some (.ref p8), o21, o22, o23, o24] ∧ Gr [p8] H9 H ∧ Ls rI H p8 s) (fun N15 hN16 hm => ?_) (fun s17 σ H18 hr19 hm => ?_)
    · have gl20 := Gr.refl (A := [p8]) H9
      obtain ⟨a29, ea33, vs30, hl31, hp32⟩ := id h_a
      have gl34 := Gr.refl (A := [p8]) H9
      refine rd_for (rd_ienumT (rd_cons (rd_var rfl (rd_nil (enum_t ea33 hl31 (for_R (r := (rP K rI rI)) (H0 := H9) (wk_enumT hp32) (fun (s : (List Int)) (σ : L2.St) (H : Hp) => ∃ (o21 : Option V) (o22 : Option V) (o23 : Option V) (o24 : Option V), σ = [some v_a, some v_b, some (.int a_p), some (.ref p8), o21, o22, o23, o24] ∧ Gr [p8] H9 H ∧ Ls rI H p8 s) (by exact wp_N hm (fun s σ' H' hr hz => hN16 s σ' H' hr hz)) ⟨_, _, _, _, rfl, gl34, h12⟩ (fun _ _ _ hr => by obtain ⟨_, _, _, _, _, g, _⟩ := hr; exact ⟨g.tup hl31, _, g⟩) (fun x35 v36 s25 σ H26 H38 N28 hr27 hg39 hx37 hm => ?_)))))))
      unfold m_multiply_rows_b2 at hm
      obtain ⟨o43, o44, o45, o46, rfl, g41, h42⟩ := hr27
      have h_a := Imm.mono g41 h_a
      have h_b := Imm.mono g41 h_b
      have g0 := Gr.many g0 (all1 ((.inr nw13)) all0) g41
      have gl34 := Gr.many gl34 (all1 ((.inl (by simp))) all0) g41
      have h_a := Imm.mono hg39 h_a
      have h_b := Imm.mono hg39 h_b
      have h42 := Ls.g0 hg39 h42
      have g0 := g0.of0' hg39
      have gl34 := gl34.of0' hg39
      obtain ⟨a47, x48, x49, ea53, h50, h51, h52⟩ := id hx37
      obtain rfl := h51
      obtain rfl := h52
      refine rd_gtE ea53 h50 rfl (rd_gc (rd_gn (rd_gc (rd_gn (rd_g0 ?_)))))
      refine nx_join (t := tFor _ _ _) (wp_bind hm) (fun (s : (List Int)) (σ : L2.St) (H : Hp) => ∃ (o61 : Option V) (o62 : Option V), σ = [some v_a, some v_b, some (.int a_p), some (.ref p8), some (.int x35.1), some (.int x35.2), o61, o62] ∧ Gr [p8] H38 H ∧ Ls rI H p8 s) (fun N55 hN56 hm => ?_) (fun s57 σ H58 hr59 hm => ?_)
      · have gl60 := Gr.refl (A := [p8]) H38
        obtain ⟨a67, ea71, vs68, hl69, hp70⟩ := id h_b
        have gl72 := Gr.refl (A := [p8]) H38
        refine rd_for (rd_ienumT (rd_cons (rd_var rfl (rd_nil (enum_t ea71 hl69 (for_R (r := (rP K rI rI)) (H0 := H38) (wk_enumT hp70) (fun (s : (List Int)) (σ : L2.St) (H : Hp) => ∃ (o61 : Option V) (o62 : Option V), σ = [some v_a, some v_b, some (.int a_p), some (.ref p8), some (.int x35.1), some (.int x35.2), o61, o62] ∧ Gr [p8] H38 H ∧ Ls rI H p8 s) (by exact wp_N hm (fun s σ' H' hr hz => hN56 s σ' H' hr hz)) ⟨_, _, rfl, gl72, h42⟩ (fun _ _ _ hr => by obtain ⟨_, _, _, g, _⟩ := hr; exact ⟨g.tup hl69, _, g⟩) (fun x73 v74 s63 σ H64 H76 N66 hr65 hg77 hx75 hm => ?_)))))))
        unfold m_multiply_rows_b1 at hm
        obtain ⟨o81, o82, rfl, g79, h80⟩ := hr65
        have h_a := Imm.mono g79 h_a
        have h_b := Imm.mono g79 h_b
        have g0 := Gr.many g0 (all1 ((.inr nw13)) all0) g79
        have gl34 := Gr.many gl34 (all1 ((.inl (by simp))) all0) g79
        have gl72 := Gr.many gl72 (all1 ((.inl (by simp))) all0) g79
        have h_a := Imm.mono hg77 h_a
        have h_b := Imm.mono hg77 h_b
        have h80 := Ls.g0 hg77 h80
        have g0 := g0.of0' hg77
        have gl34 := gl34.of0' hg77
        have gl72 := gl72.of0' hg77
        obtain ⟨a83, x84, x85, ea89, h86, h87, h88⟩ := id hx75
        obtain rfl := h87
        obtain rfl := h88
        refine rd_gtE ea89 h86 rfl (rd_gc (rd_gn (rd_gc (rd_gn (rd_g0 ?_)))))
        refine rd_asg (rd_op (rd_op (rd_var rfl (rd_op (rd_var rfl (rd_var rfl (rd_rI0 (ix_L (Ls.q h80) (wp_bind hm) fun t90 v91 h92 hm => ?_))))))))
        obtain rfl := h92
        obtain ⟨c93, hm⟩ := wp_grd hm
        refine rd_op (rd_var rfl (rd_var rfl (rd_rI (c93) (rd_rI0 (rd_gs (rd_var rfl (rd_op (rd_var rfl (rd_var rfl (rd_rI0 (rd_set h80 rfl (wp_bind hm) fun t94 H95 g96 h97 hm => ?_)))))))))))
        have h_a := Imm.mono g96 h_a
        have h_b := Imm.mono g96 h_b
        have g0 := Gr.loc g0 nw13 g96
        have gl34 := Gr.at1 gl34 (by simp) g96
        have gl72 := Gr.at1 gl72 (by simp) g96
        exact hm _ _ ⟨_, _, rfl, gl72, h97⟩
      obtain ⟨o100, o101, rfl, g98, h99⟩ := hr59
      have h_a := Imm.mono g98 h_a
      have h_b := Imm.mono g98 h_b
      have g0 := Gr.many g0 (all1 ((.inr nw13)) all0) g98
      have gl34 := Gr.many gl34 (all1 ((.inl (by simp))) all0) g98
      exact hm _ _ ⟨_, _, _, _, rfl, gl34, h99⟩
    obtain ⟨o104, o105, o106, o107, rfl, g102, h103⟩ := hr19
    have h_a := Imm.mono g102 h_a
    have h_b := Imm.mono g102 h_b
    have g0 := Gr.many g0 (all1 ((.inr nw13)) all0) g102
    refine rd_ret (rd_call (rd_cons (rd_var rfl (rd_cons (rd_var rfl (rd_nil ⟨_, _, _, rfl, h103, wp_imp (wp_bind hm) (fun t108 hm v111 H109 g110 h112 => ?_) (fun _ e => e)⟩))))))
    have h103 := Ls.g0 g110 h103
    have g0 := g0.of0' g110
    exact hm _ _ g0 h112

abbrev s__law_times : Stmt := topS 21
abbrev n__law_times : List Str := ["a", "b", "p", "k", "out", "i"]
theorem sc__law_times : FnScope n__law_times ["a", "b", "p"] (defScope s__law_times) := ⟨rfl, rfl, rfl, by decide +kernel, rfl, by decide +kernel, by decide +kernel⟩
def m__law_times_b1 (s8 : List Int) (x9 : Int) : R (List Int) :=
  grd (lenLt s8) <| R.ok (s8 ++ [(0 : Int)])
def m__law_times_b2 (a_a : (List Int)) (a_b : (List Int)) (x42 : Int) (s58 : (List Int)) (x64 : Int) : R ((List Int)) :=
  (getL s58 (x42 + x64)).bind fun t71 => (getL a_a x42).bind fun t74 => (getL a_b x64).bind fun t77 => grd (CMul t74 t77) <| (setL s58 (x42 + x64) (t71 + (t74 * t77))).bind fun t81 => R.ok t81
def m__law_times_b3 (a_a : (List Int)) (a_b : (List Int)) (s36 : (List Int)) (x42 : Int) : R ((List Int)) :=
  (grd (rgOk ((a_b).length : Int)) <| foldR (m__law_times_b2 a_a a_b x42) s36 (rng 0 (((a_b).length : Int)).toNat)).bind fun s53 => R.ok s53
def m__law_times (a_a : (List Int)) (a_b : (List Int)) (a_p : Int) : R (List Int) :=
  grd (rgOk (((a_a).length : Int) + ((a_b).length : Int))) <| (foldR m__law_times_b1 ([]) (rng 0 ((((a_a).length : Int) + ((a_b).length : Int))).toNat)).bind fun s15 => (grd (rgOk ((a_a).length : Int)) <| foldR (m__law_times_b3 a_a a_b) s15 (rng 0 (((a_a).length : Int)).toNat)).bind fun s30 => (m__law_trim_2 s30 a_p).bind fun t92 => R.ok t92
def sp__law_times (K : PySem.W.Frag) : Sp := fun vs H Q _ => ∃ (a_a : (List Int)) (v_a : V) (a_b : (List Int)) (v_b : V) (a_p : Int), vs = [v_a, v_b, (.int a_p)] ∧ (rT K rI) H a_a v_a ∧ (rT K rI) H a_b v_b ∧ wp (m__law_times a_a a_b a_p) (fun r => ∀ v H', Gr [] H H' → (rT K rI) H' r v → Q v H') (fun _ => False)
theorem ok__law_times {P : Program} {w : World} {K : PySem.W.Frag} {mg : Str → Option Value} {base : Heap} {f : Addr} {fd : FuncData} (F : Fun K "_law_times" "_law_times" s__law_times f fd) (z_len : mg "len" = none) (z_range : mg "range" = none) (c__law_trim_2 : Cal P w K mg base CX0 1 "_law_trim" ["row", "p"] (sp__law_trim_2 K)) : FnOk P w K mg base CX0 2 f fd ["a", "b", "p"] (sp__law_times K) := by
  obtain ⟨f__law_trim_2, fd__law_trim_2, G__law_trim_2, g__law_trim_2, k__law_trim_2, b__law_trim_2⟩ := c__law_trim_2
  refine F.ok sc__law_times (fun vs H Q E h => ?_) (fun cdv A outer s H0 vs Q E hr h => ?_)
  · obtain ⟨a_a, v_a, a_b, v_b, a_p, rfl, h_a, h_b, hm⟩ := h
    rfl
  · obtain ⟨a_a, v_a, a_b, v_b, a_p, rfl, h_a, h_b, hm⟩ := h
    have hm : wp (m__law_times a_a a_b a_p) _ _ := hm
    unfold m__law_times at hm
    refine ⟨_, (pss_cons (ps_setLc (i := 4) (own := [("k", 3)]) (g := gName 3) (tt := tYes) rfl sc__law_times.nd rfl rfl (sw_true rfl rfl rfl (by decide +kernel)) (pi_range1 (by rfl) z_range (pa_cons (pe_op op_add (pe_callB (lenK (K := K) rfl) (by rfl) z_len PySem.boot_len (pa_cons (pv 0) pa_nil)) (pe_callB (lenK (K := K) rfl) (by rfl) z_len PySem.boot_len (pa_cons (pv 1) pa_nil))) pa_nil)) (blkOk_by (own := [("k", 3)]) (N := n__law_times) (sc := defScope s__law_times) (by decide +kernel)) (fun _ _ _ _ _ => pg_name (i := 3) sc__law_times.nd rfl (Or.inl rfl)) (fun _ _ _ _ _ => pts_nil) (fun _ _ _ _ _ => pe_int)) (pss_cons (ps_for PassesOwn.never rfl (pi_range1 (by rfl) z_range (pa_cons (pe_callB (lenK (K := K) rfl) (by rfl) z_len PySem.boot_len (pa_cons (pv 0) pa_nil)) pa_nil)) (pg_name (i := 5) sc__law_times.nd rfl (Or.inl rfl)) (pss_one (ps_for PassesOwn.never rfl (pi_range1 (by rfl) z_range (pa_cons (pe_callB (lenK (K := K) rfl) (by rfl) z_len PySem.boot_len (pa_cons (pv 1) pa_nil)) pa_nil)) (pg_name (i := 3) sc__law_times.nd rfl (Or.inl rfl)) (pss_one (ps_asg (pe_op op_add (pe_ix (ix_listK (K := K) rfl) (pv 4) (pe_op op_add (pv 5) (pv 3)) (fun _ _ => rfl)) (pe_op op_mul (pe_ix (ix_tupK (K := K) rfl) (pv 0) (pv 5) (fun _ _ => rfl)) (pe_ix (ix_tupK (K := K) rfl) (pv 1) (pv 3) (fun _ _ => rfl)))) (pg_sub (pv 4) (pe_op op_add (pv 5) (pv 3)) set_list)))))) (pss_one (ps_ret (pe_call G__law_trim_2 (hr.mono (by decide)) (by rfl) g__law_trim_2 k__law_trim_2 b__law_trim_2 .nil pass0 (pa_cons (pv 4) (pa_cons (pv 2) pa_nil))))))), ?_⟩
    have g0 := Gr.refl (A := []) H0
    obtain ⟨c1, hm⟩ := wp_grd hm
    refine rd_seq (rd_asg (rd_lc (rd_r1 (rd_cons (rd_op (rd_cb (rd_cons (rd_var rfl (rd_nil (len_T h_a (rd_cb (rd_cons (rd_var rfl (rd_nil (len_T h_b (rd_rI0 (rd_nil ⟨_, rfl, c1.1, c1.2, fun p2 n3 => ?_⟩)))))))))))))))))
    have nw4 := Gr.free g0 n3
    refine lc_rng (lo := 0) (n := ((((a_a).length : Int) + ((a_b).length : Int))).toNat) (fun (s : List Int) (H : Hp) => Gr [] H0 H ∧ Ls rI H p2 s) (wp_bind hm) ⟨Gr.new n3, ⟨[], upd_same, .nil⟩⟩ (fun x9 s8 H12 N13 hr14 hm => ?_) (fun s15 H16 hr17 hm => ?_)
    · unfold m__law_times_b1 at hm
      obtain ⟨g18, h19⟩ := hr14
      have h_a := Imm.mono g18 h_a
      have h_b := Imm.mono g18 h_b
      have g0 := Gr.of0' g0 g18
      have gl20 := g18
      obtain ⟨c21, hm⟩ := wp_grd hm
      refine rd_gn ⟨rfl, rd_yes (iteT (rd_c (lc_add h19 rfl c21 fun H22 g23 h24 => ?_)))⟩
      have h_a := Imm.mono g23 h_a
      have h_b := Imm.mono g23 h_b
      have g0 := Gr.loc g0 nw4 g23
      have gl20 := Gr.loc gl20 n3 g23
      exact hm _ ⟨gl20, h24⟩
    obtain ⟨g25, h26⟩ := hr17
    have h_a := Imm.mono g25 h_a
    have h_b := Imm.mono g25 h_b
    have g0 := Gr.of0' g0 g25
    refine rd_gn ?_
    refine rd_nx ?_
    refine seq_join (t := tFor _ _ _) (wp_bind hm) (fun (s : (List Int)) (σ : L2.St) (H : Hp) => ∃ (o34 : Option V) (o35 : Option V), σ = [some v_a, some v_b, some (.int a_p), o34, some (.ref p2), o35] ∧ Gr [p2] H16 H ∧ Ls rI H p2 s) (fun N28 hN29 hm => ?_) (fun s30 σ H31 hr32 hm => ?_)
    · have gl33 := Gr.refl (A := [p2]) H16
      obtain ⟨c40, hm⟩ := wp_grd hm
      have gl41 := Gr.refl (A := [p2]) H16
      refine rd_for (rd_r1 (rd_cons (rd_cb (rd_cons (rd_var rfl (rd_nil (len_T h_a (rd_nil ⟨_, rfl, c40.1, c40.2, for_rngR (lo := 0) (n := (((a_a).length : Int)).toNat) (fun (s : (List Int)) (σ : L2.St) (H : Hp) => ∃ (o34 : Option V) (o35 : Option V), σ = [some v_a, some v_b, some (.int a_p), o34, some (.ref p2), o35] ∧ Gr [p2] H16 H ∧ Ls rI H p2 s) (by exact wp_N hm (fun s σ' H' hr hz => hN29 s σ' H' hr hz)) ⟨_, _, rfl, gl41, h26⟩ (fun x42 s36 σ H37 N39 hr38 hm => ?_)⟩))))))))
      unfold m__law_times_b3 at hm
      obtain ⟨o47, o49, rfl, g46, h48⟩ := hr38
      have h_a := Imm.mono g46 h_a
      have h_b := Imm.mono g46 h_b
      have g0 := Gr.many g0 (all1 ((.inr nw4)) all0) g46
      have gl41 := Gr.many gl41 (all1 ((.inl (by simp))) all0) g46
      refine nx_join (t := tFor _ _ _) (wp_bind hm) (fun (s : (List Int)) (σ : L2.St) (H : Hp) => ∃ (o57 : Option V), σ = [some v_a, some v_b, some (.int a_p), o57, some (.ref p2), some (.int x42)] ∧ Gr [p2] H37 H ∧ Ls rI H p2 s) (fun N51 hN52 hm => ?_) (fun s53 σ H54 hr55 hm => ?_)
      · have gl56 := Gr.refl (A := [p2]) H37
        obtain ⟨c62, hm⟩ := wp_grd hm
        have gl63 := Gr.refl (A := [p2]) H37
        refine rd_gn (rd_for (rd_r1 (rd_cons (rd_cb (rd_cons (rd_var rfl (rd_nil (len_T h_b (rd_nil ⟨_, rfl, c62.1, c62.2, for_rngR (lo := 0) (n := (((a_b).length : Int)).toNat) (fun (s : (List Int)) (σ : L2.St) (H : Hp) => ∃ (o57 : Option V), σ = [some v_a, some v_b, some (.int a_p), o57, some (.ref p2), some (.int x42)] ∧ Gr [p2] H37 H ∧ Ls rI H p2 s) (by exact wp_N hm (fun s σ' H' hr hz => hN52 s σ' H' hr hz)) ⟨_, rfl, gl63, h48⟩ (fun x64 s58 σ H59 N61 hr60 hm => ?_)⟩)))))))))
        unfold m__law_times_b2 at hm
        obtain ⟨o69, rfl, g68, h70⟩ := hr60
        have h_a := Imm.mono g68 h_a
        have h_b := Imm.mono g68 h_b
        have g0 := Gr.many g0 (all1 ((.inr nw4)) all0) g68
        have gl41 := Gr.many gl41 (all1 ((.inl (by simp))) all0) g68
        have gl63 := Gr.many gl63 (all1 ((.inl (by simp))) all0) g68
        refine rd_gn (rd_asg (rd_op (rd_op (rd_var rfl (rd_op (rd_var rfl (rd_var rfl (rd_rI0 (ix_L (Ls.q h70) (wp_bind hm) fun t71 v72 h73 hm => ?_)))))))))
        obtain rfl := h73
        refine rd_op (rd_op (rd_var rfl (rd_var rfl (ix_T h_a (wp_bind hm) fun t74 v75 h76 hm => ?_))))
        obtain rfl := h76
        refine rd_op (rd_var rfl (rd_var rfl (ix_T h_b (wp_bind hm) fun t77 v78 h79 hm => ?_)))
        obtain rfl := h79
        obtain ⟨c80, hm⟩ := wp_grd hm
        refine rd_rI (c80) (rd_rI0 (rd_gs (rd_var rfl (rd_op (rd_var rfl (rd_var rfl (rd_rI0 (rd_set h70 rfl (wp_bind hm) fun t81 H82 g83 h84 hm => ?_))))))))
        have h_a := Imm.mono g83 h_a
        have h_b := Imm.mono g83 h_b
        have g0 := Gr.loc g0 nw4 g83
        have gl41 := Gr.at1 gl41 (by simp) g83
        have gl63 := Gr.at1 gl63 (by simp) g83
        exact hm _ _ ⟨_, rfl, gl63, h84⟩
      obtain ⟨o86, rfl, g85, h87⟩ := hr55
      have h_a := Imm.mono g85 h_a
      have h_b := Imm.mono g85 h_b
      have g0 := Gr.many g0 (all1 ((.inr nw4)) all0) g85
      have gl41 := Gr.many gl41 (all1 ((.inl (by simp))) all0) g85
      exact hm _ _ ⟨_, _, rfl, gl41, h87⟩
    obtain ⟨o89, o91, rfl, g88, h90⟩ := hr32
    have h_a := Imm.mono g88 h_a
    have h_b := Imm.mono g88 h_b
    have g0 := Gr.many g0 (all1 ((.inr nw4)) all0) g88
    refine rd_ret (rd_call (rd_cons (rd_var rfl (rd_cons (rd_var rfl (rd_nil ⟨_, _, _, rfl, h90, wp_imp (wp_bind hm) (fun t92 hm v95 H93 g94 h96 => ?_) (fun _ e => e)⟩))))))
    have h90 := Ls.g0 g94 h90
    have g0 := g0.of0' g94
    exact hm _ _ g0 h96

abbrev s_cofactors : Stmt := topS 4
abbrev n_cofactors : List Str := ["a", "b", "g", "u", "v", "rest", "rest_u", "rest_v", "quotient"]
theorem sc_cofactors : FnScope n_cofactors ["a", "b"] (defScope s_cofactors) := ⟨rfl, rfl, rfl, by decide +kernel, rfl, by decide +kernel, by decide +kernel⟩
def m_cofactors_b1 (s9 : Int × Int × Int × Int × Int × Int) : R Bool :=
  R.ok (!decide (s9.2.2.2.1 = (0 : Int)))
def m_cofactors_b2 (s9 : Int × Int × Int × Int × Int × Int) : R (Int × Int × Int × Int × Int × Int) :=
  grd (CDivN s9.1 s9.2.2.2.1) <| grd (CMul (Int.fdiv s9.1 s9.2.2.2.1) s9.2.2.2.1) <| grd (CMul (Int.fdiv s9.1 s9.2.2.2.1) s9.2.2.2.2.1) <| grd (CMul (Int.fdiv s9.1 s9.2.2.2.1) s9.2.2.2.2.2) <| R.ok (s9.2.2.2.1, s9.2.2.2.2.1, s9.2.2.2.2.2, (s9.1 - ((Int.fdiv s9.1 s9.2.2.2.1) * s9.2.2.2.1)), (s9.2.1 - ((Int.fdiv s9.1 s9.2.2.2.1) * s9.2.2.2.2.1)), (s9.2.2.1 - ((Int.fdiv s9.1 s9.2.2.2.1) * s9.2.2.2.2.2)))
def m_cofactors (a_a : Int) (a_b : Int) : R (Int × Int × Int) :=
  (whileR m_cofactors_b1 m_cofactors_b2 100000 (a_a, (1 : Int), (0 : Int), a_b, (0 : Int), (1 : Int))).bind fun s4 => if (decide (s4.1 < (0 : Int))) = true then (R.ok ((-s4.1), (-s4.2.1), (-s4.2.2.1))) else (R.ok (s4.1, s4.2.1, s4.2.2.1))
def sp_cofactors (K : PySem.W.Frag) : Sp := fun vs H Q _ => ∃ (a_a : Int) (a_b : Int), vs = [(.int a_a), (.int a_b)] ∧ wp (m_cofactors a_a a_b) (fun r => ∀ v H', Gr [] H H' → (rP3 K rI rI rI) H' r v → Q v H') (fun _ => False)
theorem ok_cofactors {P : Program} {w : World} {K : PySem.W.Frag} {mg : Str → Option Value} {base : Heap} {f : Addr} {fd : FuncData} (F : Fun K "cofactors" "cofactors" s_cofactors f fd) : FnOk P w K mg base CX0 1 f fd ["a", "b"] (sp_cofactors K) := by
  refine F.ok sc_cofactors (fun vs H Q E h => ?_) (fun cdv A outer s H0 vs Q E hr h => ?_)
  · obtain ⟨a_a, a_b, rfl, hm⟩ := h
    rfl
  · obtain ⟨a_a, a_b, rfl, hm⟩ := h
    have hm : wp (m_cofactors a_a a_b) _ _ := hm
    unfold m_cofactors at hm
    refine ⟨_, (pss_cons (ps_par3 (i := 2) (j := 3) (l := 4) rfl sc_cofactors.nd rfl rfl rfl (by decide) (by decide) (by decide) rfl rfl rfl (pa_cons (pv 0) (pa_cons pe_int (pa_cons pe_int pa_nil))) (by rfl)) (pss_cons (ps_par3 (i := 5) (j := 6) (l := 7) rfl sc_cofactors.nd rfl rfl rfl (by decide) (by decide) (by decide) rfl rfl rfl (pa_cons (pv 1) (pa_cons pe_int (pa_cons pe_int pa_nil))) (by rfl)) (pss_cons (ps_while PassesOwn.never (pt_cmpR op_neI (pv 5) pe_int (nomark _)) (pss_cons (ps_set (i := 8) sc_cofactors.nd rfl (Or.inl rfl) (pe_op op_fdivN (pv 2) (pv 5))) (pss_cons (ps_par (i := 2) (j := 5) rfl sc_cofactors.nd rfl rfl (by decide) rfl rfl (pa_cons (pv 5) (pa_cons (pe_op op_sub (pv 2) (pe_op op_mul (pv 8) (pv 5))) pa_nil)) (by rfl)) (pss_cons (ps_par (i := 3) (j := 6) rfl sc_cofactors.nd rfl rfl (by decide) rfl rfl (pa_cons (pv 6) (pa_cons (pe_op op_sub (pv 3) (pe_op op_mul (pv 8) (pv 6))) pa_nil)) (by rfl)) (pss_one (ps_par (i := 4) (j := 7) rfl sc_cofactors.nd rfl rfl (by decide) rfl rfl (pa_cons (pv 7) (pa_cons (pe_op op_sub (pv 4) (pe_op op_mul (pv 8) (pv 7))) pa_nil)) (by rfl))))))) (pss_cons (ps_if (pt_cmpR op_lt (pv 2) pe_int (nomark _)) (pss_one (ps_ret (pe_tup (pa_cons (pe_un un_neg (pv 2)) (pa_cons (pe_un un_neg (pv 3)) (pa_cons (pe_un un_neg (pv 4)) pa_nil)))))) pss_nil) (pss_one (ps_ret (pe_tup (pa_cons (pv 2) (pa_cons (pv 3) (pa_cons (pv 4) pa_nil)))))))))), ?_⟩
    have g0 := Gr.refl (A := []) H0
    refine rd_seq (rd_par3 (rd_cons (rd_var rfl (rd_cons (rd_c (rd_cons (rd_c (rd_nil (rd_kp3 ?_)))))))))
    refine rd_nx ?_
    refine rd_seq (rd_par3 (rd_cons (rd_var rfl (rd_cons (rd_c (rd_cons (rd_c (rd_nil (rd_kp3 ?_)))))))))
    refine rd_nx ?_
    refine seq_join (t := tWhile _ _) (wp_bind hm) (fun (s : Int × Int × Int × Int × Int × Int) (σ : L2.St) (H : Hp) => ∃ (o8 : Option V), σ = [some (.int a_a), some (.int a_b), some (.int s.1), some (.int s.2.1), some (.int s.2.2.1), some (.int s.2.2.2.1), some (.int s.2.2.2.2.1), some (.int s.2.2.2.2.2), o8] ∧ Gr [] H0 H) (fun N2 hN3 hm => ?_) (fun s4 σ H5 hr6 hm => ?_)
    · have gl7 := Gr.refl (A := []) H0
      refine whl_R (fun (s : Int × Int × Int × Int × Int × Int) (σ : L2.St) (H : Hp) => ∃ (o8 : Option V), σ = [some (.int a_a), some (.int a_b), some (.int s.1), some (.int s.2.1), some (.int s.2.2.1), some (.int s.2.2.2.1), some (.int s.2.2.2.2.1), some (.int s.2.2.2.2.2), o8] ∧ Gr [] H0 H) (by exact wp_N hm (fun s σ' H' hr hz => hN3 s σ' H' hr hz)) ⟨_, rfl, gl7⟩ (fun s9 σ H10 N12 W13 m14 hW15 hr11 hm => ?_)
      unfold m_cofactors_b1 at hm
      obtain ⟨o19, rfl, g18⟩ := hr11
      have g0 := Gr.of0' g0 g18
      have gl7 := Gr.of0' gl7 g18
      refine rd_T (rd_op (rd_var rfl (rd_c (rd_rI0 (rd_kB ?_)))))
      refine iteB' (fun e20 => ?_) (fun e20 => ?_)
      · exact ifF e20 hm _ _ ⟨_, rfl, gl7⟩
      have hm := ifT e20 hm
      unfold m_cofactors_b2 at hm
      refine ⟨N12, hW15, ?_⟩
      obtain ⟨c21, hm⟩ := wp_grd hm
      refine rd_seq (rd_asg (rd_op (rd_var rfl (rd_var rfl (rd_rI c21 (rd_gn ?_))))))
      refine rd_nx ?_
      obtain ⟨c22, hm⟩ := wp_grd hm
      refine rd_seq (rd_par (rd_cons (rd_var rfl (rd_cons (rd_op (rd_var rfl (rd_op (rd_var rfl (rd_var rfl (rd_rI (c22) (rd_rI0 (rd_nil (rd_kp2 ?_)))))))))))))
      refine rd_nx ?_
      obtain ⟨c23, hm⟩ := wp_grd hm
      refine rd_seq (rd_par (rd_cons (rd_var rfl (rd_cons (rd_op (rd_var rfl (rd_op (rd_var rfl (rd_var rfl (rd_rI (c23) (rd_rI0 (rd_nil (rd_kp2 ?_)))))))))))))
      refine rd_nx ?_
      obtain ⟨c24, hm⟩ := wp_grd hm
      refine rd_par (rd_cons (rd_var rfl (rd_cons (rd_op (rd_var rfl (rd_op (rd_var rfl (rd_var rfl (rd_rI (c24) (rd_rI0 (rd_nil (rd_kp2 ?_))))))))))))
      exact hm _ _ ⟨_, rfl, gl7⟩
    obtain ⟨o26, rfl, g25⟩ := hr6
    have g0 := Gr.of0' g0 g25
    refine rd_seq (rd_if (rd_T (rd_op (rd_var rfl (rd_c (rd_rI0 (rd_kB ?_)))))))
    refine iteB (fun e27 => ?_) (fun e27 => ?_)
    · have hm := ifT e27 (wp_iteB hm)
      refine rd_ret (rd_tup (rd_cons (rd_un (rd_var rfl (rd_rU (rd_cons (rd_un (rd_var rfl (rd_rU (rd_cons (rd_un (rd_var rfl (rd_rU (rd_nil (mk_P3 (K := K) (r := rI) (s := rI) (t := rI) rfl rfl rfl fun v28 H29 g30 h31 => ?_)))))))))))))))
      have g0 := g0.of0' g30
      exact hm _ _ g0 h31
    have hm := ifF e27 (wp_iteB hm)
    refine rd_next (rd_nx ?_)
    refine rd_ret (rd_tup (rd_cons (rd_var rfl (rd_cons (rd_var rfl (rd_cons (rd_var rfl (rd_nil (mk_P3 (K := K) (r := rI) (s := rI) (t := rI) rfl rfl rfl fun v32 H33 g34 h35 => ?_)))))))))
    have g0 := g0.of0' g34
    exact hm _ _ g0 h35

abbrev s_inverse_modulo : Stmt := topS 6
abbrev n_inverse_modulo : List Str := ["a", "m", "g", "u", "_"]
theorem sc_inverse_modulo : FnScope n_inverse_modulo ["a", "m"] (defScope s_inverse_modulo) := ⟨rfl, rfl, rfl, by decide +kernel, rfl, by decide +kernel, by decide +kernel⟩
def m_inverse_modulo (a_a : Int) (a_m : Int) : R Int :=
  (noEr (m_cofactors a_a a_m)).bind fun t1 => if (!decide (t1.1 = (1 : Int))) = true then (R.er .zd) else (grd (0 < a_m) <| R.ok (t1.2.1 % a_m))
def sp_inverse_modulo (K : PySem.W.Frag) (C : Xc) : Sp := fun vs H Q E => ∃ (a_a : Int) (a_m : Int), vs = [(.int a_a), (.int a_m)] ∧ wp (m_inverse_modulo a_a a_m) (fun r => ∀ H', Gr [] H H' → Q (.int r) H') (XEr C [] H E)
theorem ok_inverse_modulo {P : Program} {w : World} {K : PySem.W.Frag} {mg : Str → Option Value} {base : Heap} {f : Addr} {fd : FuncData} {c_fault c_zd : Addr} (F : Fun K "inverse_modulo" "inverse_modulo" s_inverse_modulo f fd) (Xk_zd : Xk K mg "ZeroDivisor" c_zd) (c_cofactors : Cal P w K mg base CX0 1 "cofactors" ["a", "b"] (sp_cofactors K)) : FnOk P w K mg base (CX P w) 2 f fd ["a", "m"] (sp_inverse_modulo K (⟨some c_fault, some c_zd, none, none, none⟩ : Xc)) := by
  obtain ⟨f_cofactors, fd_cofactors, G_cofactors, g_cofactors, k_cofactors, b_cofactors⟩ := c_cofactors
  refine F.okX sc_inverse_modulo (fun vs H Q E h => ?_) (fun cdv A outer s H0 vs Q E hr h => ?_)
  · obtain ⟨a_a, a_m, rfl, hm⟩ := h
    rfl
  · obtain ⟨a_a, a_m, rfl, hm⟩ := h
    have hm : wp (m_inverse_modulo a_a a_m) _ _ := hm
    unfold m_inverse_modulo at hm
    refine ⟨_, (pss_cons (ps_asg (pe_call G_cofactors (hr.mono (by decide)) (by rfl) g_cofactors k_cofactors b_cofactors .nil pass0 (pa_cons (pv 0) (pa_cons (pv 1) pa_nil))) (pg_tup rfl (pgs_cons (pg_name (i := 2) sc_inverse_modulo.nd rfl (Or.inl rfl)) (pgs_cons (pg_name (i := 3) sc_inverse_modulo.nd rfl (Or.inl rfl)) (pgs_cons (pg_name (i := 4) sc_inverse_modulo.nd rfl (Or.inl rfl)) pgs_nil))))) (pss_cons (ps_if (pt_cmpR op_neI (pv 2) pe_int (nomark _)) (pss_one (ps_raise rfl (takes_of rfl rfl rfl rfl) (pmk_own PySem.F.excBase_ValueError Xk_zd.x Xk_zd.g Xk_zd.k (raises_own Xk_zd.b Xk_zd.t) (by rfl)))) pss_nil) (pss_one (ps_ret (pe_op op_mod (pv 3) (pv 1)))))), ?_⟩
    have g0 := Gr.refl (A := []) H0
    refine rd_seq (rd_asg (rd_call (rd_cons (rd_var rfl (rd_cons (rd_var rfl (rd_nil ⟨_, _, rfl, wp_imp (wp_bindN hm) (fun t1 hm v4 H2 g3 h5 => ?_) (fun _ e => e)⟩)))))))
    have g0 := g0.of0' g3
    obtain ⟨a6, x7, x8, x9, ea14, h10, h11, h12, h13⟩ := id h5
    obtain rfl := h11
    obtain rfl := h12
    obtain rfl := h13
    refine rd_gtE ea14 h10 rfl (rd_gc (rd_gn (rd_gc (rd_gn (rd_gc (rd_gn (rd_g0 ?_)))))))
    refine rd_nx ?_
    refine rd_seq (rd_if (rd_T (rd_op (rd_var rfl (rd_c (rd_rI0 (rd_kB ?_)))))))
    refine iteB (fun e15 => ?_) (fun e15 => ?_)
    · have hm := ifT e15 (wp_iteB hm)
      exact xe0_at hm rfl g0
    have hm := ifF e15 (wp_iteB hm)
    refine rd_next (rd_nx ?_)
    obtain ⟨c16, hm⟩ := wp_grd hm
    exact rd_ret (rd_op (rd_var rfl (rd_var rfl (rd_rI c16 (hm _ g0)))))

abbrev s_divide_rows : Stmt := topS 14
abbrev n_divide_rows : List Str := ["a", "b", "p", "factor", "rest", "places", "quotient", "at", "k", "item"]
theorem sc_divide_rows : FnScope n_divide_rows ["a", "b", "p"] (defScope s_divide_rows) := ⟨rfl, rfl, rfl, by decide +kernel, rfl, by decide +kernel, by decide +kernel⟩
def m_divide_rows_b1 (a_p : Int) (x45 : Int) (t62 : (List Int)) (s75 : (List Int)) (x85 : (Int × Int)) : R ((List Int)) :=
  (getL s75 (x45 + x85.1)).bind fun t102 => (getL t62 x45).bind fun t105 => grd (CMul t105 x85.2) <| grd (0 < a_p) <| (setL s75 (x45 + x85.1) ((t102 - (t105 * x85.2)) % a_p)).bind fun t110 => R.ok t110
def m_divide_rows_b2 (a_b : (List Int)) (a_p : Int) (t5 : Int) (s39 : (List Int) × (List Int)) (x45 : Int) : R ((List Int) × (List Int)) :=
  (getL s39.1 ((x45 + ((a_b).length : Int)) - (1 : Int))).bind fun t57 => grd (CMul t57 t5) <| grd (0 < a_p) <| (setL s39.2 x45 ((t57 * t5) % a_p)).bind fun t62 => (foldR (m_divide_rows_b1 a_p x45 t62) s39.1 (enumF a_b)).bind fun s69 => R.ok (s69, t62)
def m_divide_rows (a_a : (List Int)) (a_b : (List Int)) (a_p : Int) : R ((List Int) × (List Int)) :=
  if (!(!(a_b).isEmpty)) = true then (R.er .zd) else ((getL a_b (-(1 : Int))).bind fun t2 => (m_inverse_modulo t2 a_p).bind fun t5 => grd (repOk ([(0 : Int)]) ((((a_a).length : Int) - ((a_b).length : Int)) + (1 : Int))) <| (grd (rgOk ((((a_a).length : Int) - ((a_b).length : Int)) + (1 : Int))) <| foldR (m_divide_rows_b2 a_b a_p t5) (a_a, (repL ([(0 : Int)]) ((((a_a).length : Int) - ((a_b).length : Int)) + (1 : Int)))) (rngC (((((((a_a).length : Int) - ((a_b).length : Int)) + (1 : Int))).toNat : Int) - 1) (-1) (((((a_a).length : Int) - ((a_b).length : Int)) + (1 : Int))).toNat)).bind fun s32 => (noEr (m_trimmed_3 s32.2 a_p)).bind fun t124 => (noEr (m_trimmed_3 s32.1 a_p)).bind fun t129 => R.ok (t124, t129))
def sp_divide_rows (K : PySem.W.Frag) (C : Xc) : Sp := fun vs H Q E => ∃ (a_a : (List Int)) (v_a : V) (a_b : (List Int)) (v_b : V) (a_p : Int), vs = [v_a, v_b, (.int a_p)] ∧ (rT K rI) H a_a v_a ∧ (rT K rI) H a_b v_b ∧ wp (m_divide_rows a_a a_b a_p) (fun r => ∀ v H', Gr [] H H' → (rP K (rT K rI) (rT K rI)) H' r v → Q v H') (XEr C [] H E)
theorem ok_divide_rows {P : Program} {w : World} {K : PySem.W.Frag} {mg : Str → Option Value} {base : Heap} {f : Addr} {fd : FuncData} {c_fault c_zd : Addr} (F : Fun K "divide_rows" "divide_rows" s_divide_rows f fd) (z_list : mg "list" = none) (z_len : mg "len" = none) (z_reversed : mg "reversed" = none) (z_range : mg "range" = none) (z_enumerate : mg "enumerate" = none) (Xk_zd : Xk K mg "ZeroDivisor" c_zd) (c_inverse_modulo : Cal P w K mg base (CX P w) 2 "inverse_modulo" ["a", "m"] (sp_inverse_modulo K (⟨some c_fault, some c_zd, none, none, none⟩ : Xc))) (c_trimmed_3 : Cal P w K mg base CX0 2 "trimmed" ["row", "p"] (sp_trimmed_3 K)) : FnOk P w K mg base (CX P w) 3 f fd ["a", "b", "p"] (sp_divide_rows K (⟨some c_fault, some c_zd, none, none, none⟩ : Xc)) := by
  obtain ⟨f_inverse_modulo, fd_inverse_modulo, G_inverse_modulo, g_inverse_modulo, k_inverse_modulo, b_inverse_modulo⟩ := c_inverse_modulo
  obtain ⟨f_trimmed_3, fd_trimmed_3, G_trimmed_3, g_trimmed_3, k_trimmed_3, b_trimmed_3⟩ := c_trimmed_3
  refine F.okX sc_divide_rows (fun vs H Q E h => ?_) (fun cdv A outer s H0 vs Q E hr h => ?_)
  · obtain ⟨a_a, v_a, a_b, v_b, a_p, rfl, h_a, h_b, hm⟩ := h
    rfl
  · obtain ⟨a_a, v_a, a_b, v_b, a_p, rfl, h_a, h_b, hm⟩ := h
    have hm : wp (m_divide_rows a_a a_b a_p) _ _ := hm
    unfold m_divide_rows at hm
    refine ⟨_, (pss_cons (ps_if (pt_not (pt_tru (K := K) (pv 1) rfl)) (pss_one (ps_raise rfl (takes_of rfl rfl rfl rfl) (pmk_own PySem.F.excBase_ValueError Xk_zd.x Xk_zd.g Xk_zd.k (raises_own Xk_zd.b Xk_zd.t) (by rfl)))) pss_nil) (pss_cons (ps_set (i := 3) sc_divide_rows.nd rfl (Or.inl rfl) (pe_callS G_inverse_modulo (hr.mono (by decide)) (by rfl) g_inverse_modulo k_inverse_modulo b_inverse_modulo (fun σ => passAt (takes_of rfl rfl rfl rfl) σ) (pa_cons (pe_ix (ix_tupK (K := K) rfl) (pv 1) (pe_un un_neg pe_int) (fun _ _ => rfl)) (pa_cons (pv 2) pa_nil)))) (pss_cons (ps_set (i := 4) sc_divide_rows.nd rfl (Or.inl rfl) (pe_callTy (listK (K := K) rfl) (by rfl) z_list (by decide +kernel) (pa_cons (pv 0) pa_nil))) (pss_cons (ps_set (i := 5) sc_divide_rows.nd rfl (Or.inl rfl) (pe_op op_add (pe_op op_sub (pe_callB (lenK (K := K) rfl) (by rfl) z_len PySem.boot_len (pa_cons (pv 0) pa_nil)) (pe_callB (lenK (K := K) rfl) (by rfl) z_len PySem.boot_len (pa_cons (pv 1) pa_nil))) pe_int)) (pss_cons (ps_set (i := 6) sc_divide_rows.nd rfl (Or.inl rfl) (pe_op op_rep (pe_lst (pa_cons pe_int pa_nil)) (pv 5))) (pss_cons (ps_for PassesOwn.leaving rfl (pi_revR (by rfl) z_reversed (prg_1 (by rfl) z_range (pv 5))) (pg_name (i := 7) sc_divide_rows.nd rfl (Or.inl rfl)) (pss_cons (ps_asg (pe_op op_mod (pe_op op_mul (pe_ix (ix_listK (K := K) rfl) (pv 4) (pe_op op_sub (pe_op op_add (pv 7) (pe_callB (lenK (K := K) rfl) (by rfl) z_len PySem.boot_len (pa_cons (pv 1) pa_nil))) pe_int) (fun _ _ => rfl)) (pv 3)) (pv 2)) (pg_sub (pv 6) (pv 7) set_list)) (pss_one (ps_for PassesOwn.leaving rfl (pi_enumT (K := K) (by rfl) z_enumerate (pa_cons (pv 1) pa_nil) rfl) (pg_tup rfl (pgs_cons (pg_name (i := 8) sc_divide_rows.nd rfl (Or.inl rfl)) (pgs_cons (pg_name (i := 9) sc_divide_rows.nd rfl (Or.inl rfl)) pgs_nil))) (pss_one (ps_asg (pe_op op_mod (pe_op op_sub (pe_ix (ix_listK (K := K) rfl) (pv 4) (pe_op op_add (pv 7) (pv 8)) (fun _ _ => rfl)) (pe_op op_mul (pe_ix (ix_listK (K := K) rfl) (pv 6) (pv 7) (fun _ _ => rfl)) (pv 9))) (pv 2)) (pg_sub (pv 4) (pe_op op_add (pv 7) (pv 8)) set_list))))))) (pss_one (ps_ret (pe_tup (pa_cons (pe_call G_trimmed_3 (hr.mono (by decide)) (by rfl) g_trimmed_3 k_trimmed_3 b_trimmed_3 .nil pass0 (pa_cons (pv 6) (pa_cons (pv 2) pa_nil))) (pa_cons (pe_call G_trimmed_3 (hr.mono (by decide)) (by rfl) g_trimmed_3 k_trimmed_3 b_trimmed_3 .nil pass0 (pa_cons (pv 4) (pa_cons (pv 2) pa_nil))) pa_nil))))))))))), ?_⟩
    have g0 := Gr.refl (A := []) H0
    refine rd_seq (rd_if (rd_not (rd_Tru (rd_var rfl (tru_T h_b ?_)))))
    refine iteB (fun e1 => ?_) (fun e1 => ?_)
    · have hm := ifT e1 (wp_iteB hm)
      exact xe0_at hm rfl g0
    have hm := ifF e1 (wp_iteB hm)
    refine rd_next (rd_nx ?_)
    refine rd_seq (rd_asg (rd_callS (rd_cons (rd_op (rd_var rfl (rd_un (rd_c (rd_rU (ix_T h_b (wp_bind hm) fun t2 v3 h4 hm => ?_)))))))))
    obtain rfl := h4
    refine rd_cons (rd_var rfl (rd_nil ⟨_, _, rfl, wp_imp (wp_bind hm) (fun t5 hm H6 g7 => ?_) (fun _ e => XEr.sub g0 e)⟩))
    have h_a := Imm.mono g7 h_a
    have h_b := Imm.mono g7 h_b
    have g0 := g0.of0' g7
    refine rd_gn ?_
    refine rd_nx ?_
    refine rd_seq (rd_asg (rd_cb (rd_cons (rd_var rfl (rd_nil (lst_of_T h_a fun p8 H9 n10 g11 h12 => ?_))))))
    have nw13 := Gr.free g0 n10
    have h_a := Imm.mono g11 h_a
    have h_b := Imm.mono g11 h_b
    have g0 := g0.of0' g11
    refine rd_gn ?_
    refine rd_nx ?_
    refine rd_seq (rd_asg (rd_op (rd_op (rd_cb (rd_cons (rd_var rfl (rd_nil (len_T h_a (rd_cb (rd_cons (rd_var rfl (rd_nil (len_T h_b (rd_rI0 (rd_c (rd_rI0 (rd_gn ?_)))))))))))))))))
    refine rd_nx ?_
    refine rd_seq (rd_asg (rd_op (rd_lst (rd_cons (rd_c (rd_nil (mk_L (r := rI) (xs := [(0 : Int)]) (.cons rfl .nil) (by show 1 ≤ sizeLine; decide) fun p14 H15 n16 g17 h18 => ?_)))))))
    have ne19 : p8 ≠ p14 := Ls.ne h12 n16
    have nw20 := Gr.free g0 n16
    have h_b := Imm.mono g17 h_b
    have h12 := Ls.g0 g17 h12
    have g0 := g0.of0' g17
    obtain ⟨c21, hm⟩ := wp_grd hm
    refine rd_var rfl (rep_L h18 c21 fun p22 H23 n24 g25 h26 => ?_)
    have ne27 : p8 ≠ p22 := Ls.ne h12 n24
    have nw28 := Gr.free g0 n24
    have h_b := Imm.mono g25 h_b
    have h12 := Ls.g0 g25 h12
    have g0 := g0.of0' g25
    refine rd_gn ?_
    refine rd_nx ?_
    refine seq_join (t := tFor _ _ _) (wp_bind hm) (fun (s : (List Int) × (List Int)) (σ : L2.St) (H : Hp) => ∃ (o36 : Option V) (o37 : Option V) (o38 : Option V), σ = [some v_a, some v_b, some (.int a_p), some (.int t5), some (.ref p8), some (.int ((((a_a).length : Int) - ((a_b).length : Int)) + (1 : Int))), some (.ref p22), o36, o37, o38] ∧ Gr [p8, p22] H23 H ∧ Ls rI H p8 s.1 ∧ Ls rI H p22 s.2) (fun N30 hN31 hm => ?_) (fun s32 σ H33 hr34 hm => ?_)
    · have gl35 := Gr.refl (A := [p8, p22]) H23
      obtain ⟨c43, hm⟩ := wp_grd hm
      have gl44 := Gr.refl (A := [p8, p22]) H23
      refine rd_for (rd_irev (rd_var rfl (rd_rev c43 (for_R (r := rI) (H0 := H23) wk_rngC (fun (s : (List Int) × (List Int)) (σ : L2.St) (H : Hp) => ∃ (o36 : Option V) (o37 : Option V) (o38 : Option V), σ = [some v_a, some v_b, some (.int a_p), some (.int t5), some (.ref p8), some (.int ((((a_a).length : Int) - ((a_b).length : Int)) + (1 : Int))), some (.ref p22), o36, o37, o38] ∧ Gr [p8, p22] H23 H ∧ Ls rI H p8 s.1 ∧ Ls rI H p22 s.2) (by exact wp_N hm (fun s σ' H' hr hz => hN31 s σ' H' hr hz)) ⟨_, _, _, rfl, gl44, h12, h26⟩ (fun _ _ _ hr => by obtain ⟨_, _, _, _, g, _, _⟩ := hr; exact ⟨trivial, _, g⟩) (fun x45 v46 s39 σ H40 H48 N42 hr41 hg49 hx47 hm => ?_)))))
      unfold m_divide_rows_b2 at hm
      obtain ⟨o54, o55, o56, rfl, g51, h52, h53⟩ := hr41
      have h_b := Imm.mono g51 h_b
      have g0 := Gr.many g0 (all1 ((.inr nw13)) (all1 ((.inr nw28)) all0)) g51
      have gl44 := Gr.many gl44 (all1 ((.inl (by simp))) (all1 ((.inl (by simp))) all0)) g51
      have h_b := Imm.mono hg49 h_b
      have h52 := Ls.g0 hg49 h52
      have h53 := Ls.g0 hg49 h53
      have g0 := g0.of0' hg49
      have gl44 := gl44.of0' hg49
      obtain rfl := hx47
      refine rd_gn (rd_seq (rd_asg (rd_op (rd_op (rd_op (rd_var rfl (rd_op (rd_op (rd_var rfl (rd_cb (rd_cons (rd_var rfl (rd_nil (len_T h_b (rd_rI0 (rd_c (rd_rI0 (ix_L (Ls.q h52) (wp_bind hm) fun t57 v58 h59 hm => ?_))))))))))))))))))
      obtain rfl := h59
      obtain ⟨c60, hm⟩ := wp_grd hm
      obtain ⟨c61, hm⟩ := wp_grd hm
      refine rd_var rfl (rd_rI (c60) (rd_var rfl (rd_rI c61 (rd_gs (rd_var rfl (rd_var rfl (rd_set h53 rfl (wp_bind hm) fun t62 H63 g64 h65 hm => ?_)))))))
      have h_b := Imm.mono g64 h_b
      have h52 := Ls.g1 g64 ne27 h52
      have g0 := Gr.loc g0 nw28 g64
      have gl44 := Gr.at1 gl44 (by simp) g64
      refine rd_nx ?_
      refine nx_join (t := tFor _ _ _) (wp_bind hm) (fun (s : (List Int)) (σ : L2.St) (H : Hp) => ∃ (o73 : Option V) (o74 : Option V), σ = [some v_a, some v_b, some (.int a_p), some (.int t5), some (.ref p8), some (.int ((((a_a).length : Int) - ((a_b).length : Int)) + (1 : Int))), some (.ref p22), some (.int x45), o73, o74] ∧ Gr [p8] H63 H ∧ Ls rI H p8 s) (fun N67 hN68 hm => ?_) (fun s69 σ H70 hr71 hm => ?_)
      · have gl72 := Gr.refl (A := [p8]) H63
        obtain ⟨a79, ea83, vs80, hl81, hp82⟩ := id h_b
        have gl84 := Gr.refl (A := [p8]) H63
        refine rd_for (rd_ienumT (rd_cons (rd_var rfl (rd_nil (enum_t ea83 hl81 (for_R (r := (rP K rI rI)) (H0 := H63) (wk_enumT hp82) (fun (s : (List Int)) (σ : L2.St) (H : Hp) => ∃ (o73 : Option V) (o74 : Option V), σ = [some v_a, some v_b, some (.int a_p), some (.int t5), some (.ref p8), some (.int ((((a_a).length : Int) - ((a_b).length : Int)) + (1 : Int))), some (.ref p22), some (.int x45), o73, o74] ∧ Gr [p8] H63 H ∧ Ls rI H p8 s) (by exact wp_N hm (fun s σ' H' hr hz => hN68 s σ' H' hr hz)) ⟨_, _, rfl, gl84, h52⟩ (fun _ _ _ hr => by obtain ⟨_, _, _, g, _⟩ := hr; exact ⟨g.tup hl81, _, g⟩) (fun x85 v86 s75 σ H76 H88 N78 hr77 hg89 hx87 hm => ?_)))))))
        unfold m_divide_rows_b1 at hm
        obtain ⟨o93, o94, rfl, g91, h92⟩ := hr77
        have h_b := Imm.mono g91 h_b
        have h65 := Ls.gA g91 (nin1 (Ne.symm ne27) nin0) h65
        have g0 := Gr.many g0 (all1 ((.inr nw13)) all0) g91
        have gl44 := Gr.many gl44 (all1 ((.inl (by simp))) all0) g91
        have gl84 := Gr.many gl84 (all1 ((.inl (by simp))) all0) g91
        have h_b := Imm.mono hg89 h_b
        have h65 := Ls.g0 hg89 h65
        have h92 := Ls.g0 hg89 h92
        have g0 := g0.of0' hg89
        have gl44 := gl44.of0' hg89
        have gl84 := gl84.of0' hg89
        obtain ⟨a95, x96, x97, ea101, h98, h99, h100⟩ := id hx87
        obtain rfl := h99
        obtain rfl := h100
        refine rd_gtE ea101 h98 rfl (rd_gc (rd_gn (rd_gc (rd_gn (rd_g0 ?_)))))
        refine rd_asg (rd_op (rd_op (rd_op (rd_var rfl (rd_op (rd_var rfl (rd_var rfl (rd_rI0 (ix_L (Ls.q h92) (wp_bind hm) fun t102 v103 h104 hm => ?_)))))))))
        obtain rfl := h104
        refine rd_op (rd_op (rd_var rfl (rd_var rfl (ix_L (Ls.q h65) (wp_bind hm) fun t105 v106 h107 hm => ?_))))
        obtain rfl := h107
        obtain ⟨c108, hm⟩ := wp_grd hm
        obtain ⟨c109, hm⟩ := wp_grd hm
        refine rd_var rfl (rd_rI (c108) (rd_rI0 (rd_var rfl (rd_rI c109 (rd_gs (rd_var rfl (rd_op (rd_var rfl (rd_var rfl (rd_rI0 (rd_set h92 rfl (wp_bind hm) fun t110 H111 g112 h113 hm => ?_)))))))))))
        have h_b := Imm.mono g112 h_b
        have h65 := Ls.g1 g112 (Ne.symm ne27) h65
        have g0 := Gr.loc g0 nw13 g112
        have gl44 := Gr.at1 gl44 (by simp) g112
        have gl84 := Gr.at1 gl84 (by simp) g112
        exact hm _ _ ⟨_, _, rfl, gl84, h113⟩
      obtain ⟨o116, o117, rfl, g114, h115⟩ := hr71
      have h_b := Imm.mono g114 h_b
      have h65 := Ls.gA g114 (nin1 (Ne.symm ne27) nin0) h65
      have g0 := Gr.many g0 (all1 ((.inr nw13)) all0) g114
      have gl44 := Gr.many gl44 (all1 ((.inl (by simp))) all0) g114
      exact hm _ _ ⟨_, _, _, rfl, gl44, h115, h65⟩
    obtain ⟨o121, o122, o123, rfl, g118, h119, h120⟩ := hr34
    have h_b := Imm.mono g118 h_b
    have g0 := Gr.many g0 (all1 ((.inr nw13)) (all1 ((.inr nw28)) all0)) g118
    refine rd_ret (rd_tup (rd_cons (rd_call (rd_cons (rd_var rfl (rd_cons (rd_var rfl (rd_nil ⟨_, _, _, rfl, h120, wp_imp (wp_bindN hm) (fun t124 hm v127 H125 g126 h128 => ?_) (fun _ e => e)⟩))))))))
    have h119 := Ls.g0 g126 h119
    have h120 := Ls.g0 g126 h120
    have g0 := g0.of0' g126
    refine rd_cons (rd_call (rd_cons (rd_var rfl (rd_cons (rd_var rfl (rd_nil ⟨_, _, _, rfl, h119, wp_imp (wp_bindN hm) (fun t129 hm v132 H130 g131 h133 => ?_) (fun _ e => e)⟩))))))
    have h119 := Ls.g0 g131 h119
    have h120 := Ls.g0 g131 h120
    have h128 := Imm.mono g131 h128
    have g0 := g0.of0' g131
    refine rd_nil (mk_P (K := K) (r := (rT K rI)) (s := (rT K rI)) h128 h133 fun v134 H135 g136 h137 => ?_)
    have h119 := Ls.g0 g136 h119
    have h120 := Ls.g0 g136 h120
    have g0 := g0.of0' g136
    exact hm _ _ g0 h137

abbrev s__law_refused : Stmt := topS 23
abbrev n__law_refused : List Str := ["a", "p", "e"]
theorem sc__law_refused : FnScope n__law_refused ["a", "p"] (defScope s__law_refused) := ⟨rfl, rfl, rfl, by decide +kernel, rfl, by decide +kernel, by decide +kernel⟩
def m__law_refused (a_a : (List Int)) (a_p : Int) : R Bool :=
  (tryR ((m_divide_rows a_a ([]) a_p).bind fun t19 => R.ok (Le.dn ())) (fun e => Er.on e (R.ok (Le.rt true)) (R.er (.mal)) (fun r => R.er (.refu r)) (fun i => R.er (.nt i)))).bind fun o => Le.thn o (fun (_ : Unit) => R.ok false) (fun r => R.ok r)
def sp__law_refused (K : PySem.W.Frag) : Sp := fun vs H Q _ => ∃ (a_a : (List Int)) (v_a : V) (a_p : Int), vs = [v_a, (.int a_p)] ∧ (rT K rI) H a_a v_a ∧ wp (m__law_refused a_a a_p) (fun r => ∀ H', Gr [] H H' → Q (.bl r) H') (fun _ => False)
theorem ok__law_refused {P : Program} {w : World} {K : PySem.W.Frag} {mg : Str → Option Value} {base : Heap} {f : Addr} {fd : FuncData} {c_fault c_zd : Addr} (F : Fun K "_law_refused" "_law_refused" s__law_refused f fd) (z_ValueError : mg "ValueError" = none) (z_isinstance : mg "isinstance" = none) (em_zd_zd : PySem.W.exmOne K (.ref c_zd) (.ref c_zd) = some true) (EC_zd : ExcC K c_zd) (ko_zd_ValueError : PySem.W.kitOne K (.ref c_zd) (.type "ValueError") = some true) (gc_zd : mg "ZeroDivisor" = some (.ref c_zd)) (c_divide_rows : Cal P w K mg base (CX P w) 3 "divide_rows" ["a", "b", "p"] (sp_divide_rows K (⟨some c_fault, some c_zd, none, none, none⟩ : Xc))) : FnOk P w K mg base CX0 4 f fd ["a", "p"] (sp__law_refused K) := by
  obtain ⟨f_divide_rows, fd_divide_rows, G_divide_rows, g_divide_rows, k_divide_rows, b_divide_rows⟩ := c_divide_rows
  refine F.ok sc__law_refused (fun vs H Q E h => ?_) (fun cdv A outer s H0 vs Q E hr h => ?_)
  · obtain ⟨a_a, v_a, a_p, rfl, h_a, hm⟩ := h
    rfl
  · obtain ⟨a_a, v_a, a_p, rfl, h_a, hm⟩ := h
    have hm : wp (m__law_refused a_a a_p) _ _ := hm
    unfold m__law_refused at hm
    refine ⟨_, (pss_cons (ps_tryAs (i := 2) rfl rfl sc__law_refused.nd rfl rfl ⟨by rfl, by decide, .inl gc_zd⟩ takes0 (fun W pn xe tk po => (pss_one (ps_expr (pe_callS G_divide_rows (hr.mono (by decide)) (by rfl) g_divide_rows k_divide_rows b_divide_rows (fun σ => passAt tk σ) (pa_cons (pv 0) (pa_cons (pe_tup pa_nil) (pa_cons (pv 1) pa_nil))))))) (fun ax oe cls d pn hz hf => (pss_one (ps_ret (pe_callB (call_isX hz hf) (by rfl) z_isinstance (by decide +kernel) (pa_cons (pv 2) (pa_cons (pe_bltn (by rfl) z_ValueError (by decide +kernel) (show L2.RelV (.ty "ValueError") (.type "ValueError") from rfl)) pa_nil))))))) (pss_one (ps_ret pe_bl))), ?_⟩
    have g0 := Gr.refl (A := []) H0
    refine seq_joinL (t := tTryAs _ _ _ _ _ _) (wp_le hm) (fun (s : Unit) (σ : L2.St) (H : Hp) => σ = [some v_a, some (.int a_p), none] ∧ Gr [] H0 H) (fun N hm => ?_) (fun s3 σ H4 hr5 hm => ?_)
    · have gl6 := Gr.refl (A := []) H0
      refine rd_tryAs (⟨some c_fault, some c_zd, none, none, none⟩ : Xc) ((fun (s : Unit) (σ : L2.St) (H : Hp) => σ = [some v_a, some (.int a_p), none] ∧ Gr [] H0 H) ()) hm (fun e σ H7 hrx hm => ?_) (fun W9 hx8 hm => ?_)
      · skip
        obtain ⟨rfl, g10⟩ := hrx
        have h_a := Imm.mono g10 h_a
        have g0 := Gr.of0' g0 g10
        have gl6 := Gr.of0' gl6 g10
        cases e with
        | zd =>
          have hm := wp_on_zd hm
          refine ⟨_, rfl, fun H11 g12 => ⟨true, em_zd_zd, fun _ ax hax => ?_, fun q => nomatch q⟩⟩
          have h_a := Imm.mono g12 h_a
          have g0 := g0.of0' g12
          have gl6 := gl6.of0' g12
          exact rd_ret (rd_cb (rd_cons (rd_var rfl (rd_cons (rd_c (rd_nil (isX_one EC_zd ko_zd_ValueError (fun _ h => h) (hm _ g0))))))))
        | mal => exact (show False from hm).elim
        | refu r => exact (show False from hm).elim
        | nt i => exact (show False from hm).elim
      refine rd_drop (rd_callS (rd_cons (rd_var rfl (rd_cons (rd_tup (rd_nil (mk_T (K := K) (r := rI) (xs := []) .nil (by show 0 ≤ sizeLine; decide) fun v15 H16 g17 h18 => ?_)))))))
      have h_a := Imm.mono g17 h_a
      have g0 := g0.of0' g17
      have gl6 := gl6.of0' g17
      refine rd_cons (rd_var rfl (rd_nil ⟨_, _, _, _, _, rfl, h_a, h18, wp_imp (wp_bind hm) (fun t19 hm v22 H20 g21 h23 => ?_) (fun _ e => hx8 _ _ _ ⟨rfl, gl6⟩ e)⟩))
      have h_a := Imm.mono g21 h_a
      have g0 := g0.of0' g21
      have gl6 := gl6.of0' g21
      exact hm _ _ ⟨rfl, gl6⟩
    obtain ⟨rfl, g24⟩ := hr5
    have h_a := Imm.mono g24 h_a
    have g0 := Gr.of0' g0 g24
    exact rd_ret (rd_c (hm _ g0))

abbrev s_common_row : Stmt := topS 15
abbrev n_common_row : List Str := ["a", "b", "p", "divisor", "rest"]
theorem sc_common_row : FnScope n_common_row ["a", "b", "p"] (defScope s_common_row) := ⟨rfl, rfl, rfl, by decide +kernel, rfl, by decide +kernel, by decide +kernel⟩
def m_common_row_b1 (s10 : (List Int) × (List Int)) : R Bool :=
  R.ok (!(s10.2).isEmpty)
def m_common_row_b2 (a_p : Int) (s10 : (List Int) × (List Int)) : R ((List Int) × (List Int)) :=
  (m_divide_rows s10.1 s10.2 a_p).bind fun t25 => R.ok (s10.2, t25.2)
def m_common_row (a_a : (List Int)) (a_b : (List Int)) (a_p : Int) : R (List Int) :=
  (whileR m_common_row_b1 (m_common_row_b2 a_p) 100000 (a_a, a_b)).bind fun s4 => if (!(!(s4.1).isEmpty)) = true then (R.ok ([])) else ((getL s4.1 (-(1 : Int))).bind fun t43 => (m_inverse_modulo t43 a_p).bind fun t46 => (noEr (m_multiply_rows s4.1 ([t46]) a_p)).bind fun t53 => R.ok t53)
def sp_common_row (K : PySem.W.Frag) (C : Xc) : Sp := fun vs H Q E => ∃ (a_a : (List Int)) (v_a : V) (a_b : (List Int)) (v_b : V) (a_p : Int), vs = [v_a, v_b, (.int a_p)] ∧ (rT K rI) H a_a v_a ∧ (rT K rI) H a_b v_b ∧ wp (m_common_row a_a a_b a_p) (fun r => ∀ v H', Gr [] H H' → (rT K rI) H' r v → Q v H') (XEr C [] H E)
theorem ok_common_row {P : Program} {w : World} {K : PySem.W.Frag} {mg : Str → Option Value} {base : Heap} {f : Addr} {fd : FuncData} {c_fault c_zd : Addr} (F : Fun K "common_row" "common_row" s_common_row f fd) (c_divide_rows : Cal P w K mg base (CX P w) 3 "divide_rows" ["a", "b", "p"] (sp_divide_rows K (⟨some c_fault, some c_zd, none, none, none⟩ : Xc))) (c_inverse_modulo : Cal P w K mg base (CX P w) 2 "inverse_modulo" ["a", "m"] (sp_inverse_modulo K (⟨some c_fault, some c_zd, none, none, none⟩ : Xc))) (c_multiply_rows : Cal P w K mg base CX0 3 "multiply_rows" ["a", "b", "p"] (sp_multiply_rows K)) : FnOk P w K mg base (CX P w) 4 f fd ["a", "b", "p"] (sp_common_row K (⟨some c_fault, some c_zd, none, none, none⟩ : Xc)) := by
  obtain ⟨f_divide_rows, fd_divide_rows, G_divide_rows, g_divide_rows, k_divide_rows, b_divide_rows⟩ := c_divide_rows
  obtain ⟨f_inverse_modulo, fd_inverse_modulo, G_inverse_modulo, g_inverse_modulo, k_inverse_modulo, b_inverse_modulo⟩ := c_inverse_modulo
  obtain ⟨f_multiply_rows, fd_multiply_rows, G_multiply_rows, g_multiply_rows, k_multiply_rows, b_multiply_rows⟩ := c_multiply_rows
  refine F.okX sc_common_row (fun vs H Q E h => ?_) (fun cdv A outer s H0 vs Q E hr h => ?_)
  · obtain ⟨a_a, v_a, a_b, v_b, a_p, rfl, h_a, h_b, hm⟩ := h
    rfl
  · obtain ⟨a_a, v_a, a_b, v_b, a_p, rfl, h_a, h_b, hm⟩ := h
    have hm : wp (m_common_row a_a a_b a_p) _ _ := hm
    unfold m_common_row at hm
    refine ⟨_, (pss_cons (ps_par (i := 3) (j := 4) rfl sc_common_row.nd rfl rfl (by decide) rfl rfl (pa_cons (pv 0) (pa_cons (pv 1) pa_nil)) (by rfl)) (pss_cons (ps_while PassesOwn.leaving (pt_tru (K := K) (pv 4) rfl) (pss_one (ps_par (i := 3) (j := 4) rfl sc_common_row.nd rfl rfl (by decide) rfl rfl (pa_cons (pv 4) (pa_cons (pe_ix (ix_tupK (K := K) rfl) (pe_callS G_divide_rows (hr.mono (by decide)) (by rfl) g_divide_rows k_divide_rows b_divide_rows (fun σ => passAt (takes_of rfl rfl rfl rfl) σ) (pa_cons (pv 3) (pa_cons (pv 4) (pa_cons (pv 2) pa_nil)))) pe_int (fun _ _ => rfl)) pa_nil)) (by rfl)))) (pss_cons (ps_if (pt_not (pt_tru (K := K) (pv 3) rfl)) (pss_one (ps_ret (pe_tup pa_nil))) pss_nil) (pss_one (ps_ret (pe_call G_multiply_rows (hr.mono (by decide)) (by rfl) g_multiply_rows k_multiply_rows b_multiply_rows .nil pass0 (pa_cons (pv 3) (pa_cons (pe_tup (pa_cons (pe_callS G_inverse_modulo (hr.mono (by decide)) (by rfl) g_inverse_modulo k_inverse_modulo b_inverse_modulo (fun σ => passAt (takes_of rfl rfl rfl rfl) σ) (pa_cons (pe_ix (ix_tupK (K := K) rfl) (pv 3) (pe_un un_neg pe_int) (fun _ _ => rfl)) (pa_cons (pv 2) pa_nil))) pa_nil)) (pa_cons (pv 2) pa_nil))))))))), ?_⟩
    have g0 := Gr.refl (A := []) H0
    refine rd_seq (rd_par (rd_cons (rd_var rfl (rd_cons (rd_var rfl (rd_nil (rd_kp2 ?_)))))))
    refine rd_nx ?_
    refine seq_join (t := tWhile _ _) (wp_bind hm) (fun (s : (List Int) × (List Int)) (σ : L2.St) (H : Hp) => ∃ (w8 : V) (w9 : V), σ = [some v_a, some v_b, some (.int a_p), some w8, some w9] ∧ Gr [] H0 H ∧ (rT K rI) H s.1 w8 ∧ (rT K rI) H s.2 w9) (fun N2 hN3 hm => ?_) (fun s4 σ H5 hr6 hm => ?_)
    · have gl7 := Gr.refl (A := []) H0
      refine whl_R (fun (s : (List Int) × (List Int)) (σ : L2.St) (H : Hp) => ∃ (w8 : V) (w9 : V), σ = [some v_a, some v_b, some (.int a_p), some w8, some w9] ∧ Gr [] H0 H ∧ (rT K rI) H s.1 w8 ∧ (rT K rI) H s.2 w9) (by exact wp_N hm (fun s σ' H' hr hz => hN3 s σ' H' hr hz)) ⟨_, _, rfl, gl7, h_a, h_b⟩ (fun s10 σ H11 N13 W14 m15 hW16 hr12 hm => ?_)
      unfold m_common_row_b1 at hm
      obtain ⟨w20, w22, rfl, g19, h21, h23⟩ := hr12
      have g0 := Gr.of0' g0 g19
      have gl7 := Gr.of0' gl7 g19
      refine rd_Tru (rd_var rfl (tru_T h23 ?_))
      refine iteB' (fun e24 => ?_) (fun e24 => ?_)
      · exact ifF e24 hm _ _ ⟨_, _, rfl, gl7, h21, h23⟩
      have hm := ifT e24 hm
      unfold m_common_row_b2 at hm
      refine ⟨N13, hW16, ?_⟩
      refine rd_par (rd_cons (rd_var rfl (rd_cons (rd_op (rd_callS (rd_cons (rd_var rfl (rd_cons (rd_var rfl (rd_cons (rd_var rfl (rd_nil ⟨_, _, _, _, _, rfl, h21, h23, wp_imp (wp_bind hm) (fun t25 hm v28 H26 g27 h29 => ?_) (fun _ e => XEr.sub g0 e)⟩))))))))))))
      have h21 := Imm.mono g27 h21
      have h23 := Imm.mono g27 h23
      have g0 := g0.of0' g27
      have gl7 := gl7.of0' g27
      refine rd_c (ix_P21 h29 (by rfl) fun v31 h32 => ?_)
      refine rd_nil (rd_kp2 ?_)
      exact hm _ _ ⟨_, _, rfl, gl7, h23, h32⟩
    obtain ⟨w34, w36, rfl, g33, h35, h37⟩ := hr6
    have g0 := Gr.of0' g0 g33
    refine rd_seq (rd_if (rd_not (rd_Tru (rd_var rfl (tru_T h35 ?_)))))
    refine iteB (fun e38 => ?_) (fun e38 => ?_)
    · have hm := ifT e38 (wp_iteB hm)
      refine rd_ret (rd_tup (rd_nil (mk_T (K := K) (r := rI) (xs := []) .nil (by show 0 ≤ sizeLine; decide) fun v39 H40 g41 h42 => ?_)))
      have h35 := Imm.mono g41 h35
      have g0 := g0.of0' g41
      exact hm _ _ g0 h42
    have hm := ifF e38 (wp_iteB hm)
    refine rd_next (rd_nx ?_)
    refine rd_ret (rd_call (rd_cons (rd_var rfl (rd_cons (rd_tup (rd_cons (rd_callS (rd_cons (rd_op (rd_var rfl (rd_un (rd_c (rd_rU (ix_T h35 (wp_bind hm) fun t43 v44 h45 hm => ?_))))))))))))))
    obtain rfl := h45
    refine rd_cons (rd_var rfl (rd_nil ⟨_, _, rfl, wp_imp (wp_bind hm) (fun t46 hm H47 g48 => ?_) (fun _ e => XEr.sub g0 e)⟩))
    have h35 := Imm.mono g48 h35
    have g0 := g0.of0' g48
    refine rd_nil (mk_T (K := K) (r := rI) (xs := [t46]) (.cons rfl .nil) (by show 1 ≤ sizeLine; decide) fun v49 H50 g51 h52 => ?_)
    have h35 := Imm.mono g51 h35
    have g0 := g0.of0' g51
    refine rd_cons (rd_var rfl (rd_nil ⟨_, _, _, _, _, rfl, h35, h52, wp_imp (wp_bindN hm) (fun t53 hm v56 H54 g55 h57 => ?_) (fun _ e => e)⟩))
    have h35 := Imm.mono g55 h35
    have g0 := g0.of0' g55
    exact hm _ _ g0 h57

abbrev s__law_rest : Stmt := topS 22
abbrev n__law_rest : List Str := ["a", "m", "p", "rest", "factor", "start", "k", "x"]
theorem sc__law_rest : FnScope n__law_rest ["a", "m", "p"] (defScope s__law_rest) := ⟨rfl, rfl, rfl, by decide +kernel, rfl, by decide +kernel, by decide +kernel⟩
def m__law_rest_b1 (a_p : Int) (s12 : List Int) (x13 : Int) : R (List Int) :=
  grd (0 < a_p) <| grd (lenLt s12) <| R.ok (s12 ++ [(x13 % a_p)])
def m__law_rest_b2 (a_m : (List Int)) (s42 : (List Int)) : R Bool :=
  R.ok (decide (((a_m).length : Int) ≤ ((s42).length : Int)))
def m__law_rest_b3 (a_m : (List Int)) (a_p : Int) (s42 : (List Int)) (t57 : Int) (s68 : (List Int)) (x74 : Int) : R ((List Int)) :=
  (getL s68 ((((s42).length : Int) - ((a_m).length : Int)) + x74)).bind fun t81 => (getL a_m x74).bind fun t84 => grd (CMul t57 t84) <| grd (0 < a_p) <| (setL s68 ((((s42).length : Int) - ((a_m).length : Int)) + x74) ((t81 - (t57 * t84)) % a_p)).bind fun t89 => R.ok t89
def m__law_rest_b4 (a_m : (List Int)) (a_p : Int) (s42 : (List Int)) : R ((List Int)) :=
  (getL s42 (((s42).length : Int) - (1 : Int))).bind fun t57 => (grd (rgOk ((a_m).length : Int)) <| foldR (m__law_rest_b3 a_m a_p s42 t57) s42 (rng 0 (((a_m).length : Int)).toNat)).bind fun s63 => (popL s63).bind fun t102 => R.ok t102.2
def m__law_rest (a_a : (List Int)) (a_m : (List Int)) (a_p : Int) : R (List Int) :=
  (foldR (m__law_rest_b1 a_p) ([]) a_a).bind fun s19 => (whileR (m__law_rest_b2 a_m) (m__law_rest_b4 a_m a_p) 100000 s19).bind fun s35 => (m__law_trim_2 s35 a_p).bind fun t108 => R.ok t108
def sp__law_rest (K : PySem.W.Frag) : Sp := fun vs H Q _ => ∃ (a_a : (List Int)) (v_a : V) (a_m : (List Int)) (v_m : V) (a_p : Int), vs = [v_a, v_m, (.int a_p)] ∧ (rT K rI) H a_a v_a ∧ (rT K rI) H a_m v_m ∧ wp (m__law_rest a_a a_m a_p) (fun r => ∀ v H', Gr [] H H' → (rT K rI) H' r v → Q v H') (fun _ => False)
theorem ok__law_rest {P : Program} {w : World} {K : PySem.W.Frag} {mg : Str → Option Value} {base : Heap} {f : Addr} {fd : FuncData} (F : Fun K "_law_rest" "_law_rest" s__law_rest f fd) (z_len : mg "len" = none) (z_range : mg "range" = none) (c__law_trim_2 : Cal P w K mg base CX0 1 "_law_trim" ["row", "p"] (sp__law_trim_2 K)) : FnOk P w K mg base CX0 2 f fd ["a", "m", "p"] (sp__law_rest K) := by
  obtain ⟨f__law_trim_2, fd__law_trim_2, G__law_trim_2, g__law_trim_2, k__law_trim_2, b__law_trim_2⟩ := c__law_trim_2
  refine F.ok sc__law_rest (fun vs H Q E h => ?_) (fun cdv A outer s H0 vs Q E hr h => ?_)
  · obtain ⟨a_a, v_a, a_m, v_m, a_p, rfl, h_a, h_m, hm⟩ := h
    rfl
  · obtain ⟨a_a, v_a, a_m, v_m, a_p, rfl, h_a, h_m, hm⟩ := h
    have hm : wp (m__law_rest a_a a_m a_p) _ _ := hm
    unfold m__law_rest at hm
    refine ⟨_, (pss_cons (ps_setLc (i := 3) (own := [("x", 7)]) (g := gName 7) (tt := tYes) rfl sc__law_rest.nd rfl rfl (sw_true rfl rfl rfl (by decide +kernel)) (pi_tupK (K := K) (pv 0) rfl) (blkOk_by (own := [("x", 7)]) (N := n__law_rest) (sc := defScope s__law_rest) (by decide +kernel)) (fun _ _ _ _ _ => pg_name (i := 7) sc__law_rest.nd rfl (Or.inl rfl)) (fun _ _ _ _ _ => pts_nil) (fun _ _ _ _ _ => (pe_op op_mod (pv 7) (pv 2)))) (pss_cons (ps_while PassesOwn.never (pt_cmpR op_ge (pe_callB (lenK (K := K) rfl) (by rfl) z_len PySem.boot_len (pa_cons (pv 3) pa_nil)) (pe_callB (lenK (K := K) rfl) (by rfl) z_len PySem.boot_len (pa_cons (pv 1) pa_nil)) (nomark _)) (pss_cons (ps_set (i := 4) sc__law_rest.nd rfl (Or.inl rfl) (pe_ix (ix_listK (K := K) rfl) (pv 3) (pe_op op_sub (pe_callB (lenK (K := K) rfl) (by rfl) z_len PySem.boot_len (pa_cons (pv 3) pa_nil)) pe_int) (fun _ _ => rfl))) (pss_cons (ps_set (i := 5) sc__law_rest.nd rfl (Or.inl rfl) (pe_op op_sub (pe_callB (lenK (K := K) rfl) (by rfl) z_len PySem.boot_len (pa_cons (pv 3) pa_nil)) (pe_callB (lenK (K := K) rfl) (by rfl) z_len PySem.boot_len (pa_cons (pv 1) pa_nil)))) (pss_cons (ps_for PassesOwn.never rfl (pi_range1 (by rfl) z_range (pa_cons (pe_callB (lenK (K := K) rfl) (by rfl) z_len PySem.boot_len (pa_cons (pv 1) pa_nil)) pa_nil)) (pg_name (i := 6) sc__law_rest.nd rfl (Or.inl rfl)) (pss_one (ps_asg (pe_op op_mod (pe_op op_sub (pe_ix (ix_listK (K := K) rfl) (pv 3) (pe_op op_add (pv 5) (pv 6)) (fun _ _ => rfl)) (pe_op op_mul (pv 4) (pe_ix (ix_tupK (K := K) rfl) (pv 1) (pv 6) (fun _ _ => rfl)))) (pv 2)) (pg_sub (pv 3) (pe_op op_add (pv 5) (pv 6)) set_list)))) (pss_one (ps_expr (pe_bm0 PySem.F.plainAttrs_list PySem.F.slot_list_pop PySem.F.type_list_pop mt_pop (pv 3)))))))) (pss_one (ps_ret (pe_call G__law_trim_2 (hr.mono (by decide)) (by rfl) g__law_trim_2 k__law_trim_2 b__law_trim_2 .nil pass0 (pa_cons (pv 3) (pa_cons (pv 2) pa_nil))))))), ?_⟩
    have g0 := Gr.refl (A := []) H0
    obtain ⟨a4, ea5, vs1, hl2, hp3⟩ := id h_a
    refine rd_seq (rd_asg (rd_lc (rd_it (rd_var rfl ⟨_, ea5, ⟨_, hl2⟩, fun p6 n7 => ?_⟩))))
    have nw8 := Gr.free g0 n7
    refine lc_tup (r := rI) (H1 := H0) (fun (s : List Int) (H : Hp) => Gr [] H0 H ∧ Ls rI H p6 s) hp3 (wp_bind hm) ⟨Gr.new n7, ⟨[], upd_same, .nil⟩⟩ (fun _ _ hr => by obtain ⟨g, _⟩ := hr; exact g.tup hl2) (fun x13 v14 s12 H16 N17 hx15 hr18 hm => ?_) (fun s19 H20 hr21 hm => ?_)
    · unfold m__law_rest_b1 at hm
      obtain ⟨g22, h23⟩ := hr18
      have h_a := Imm.mono g22 h_a
      have h_m := Imm.mono g22 h_m
      have g0 := Gr.of0' g0 g22
      have gl24 := g22
      obtain rfl := hx15
      obtain ⟨c25, hm⟩ := wp_grd hm
      obtain ⟨c26, hm⟩ := wp_grd hm
      refine rd_gn ⟨rfl, rd_yes (iteT (rd_op (rd_var rfl (rd_var rfl (rd_rI c25 (lc_add h23 rfl c26 fun H27 g28 h29 => ?_))))))⟩
      have h_a := Imm.mono g28 h_a
      have h_m := Imm.mono g28 h_m
      have g0 := Gr.loc g0 nw8 g28
      have gl24 := Gr.loc gl24 n7 g28
      exact hm _ ⟨gl24, h29⟩
    obtain ⟨g30, h31⟩ := hr21
    have h_a := Imm.mono g30 h_a
    have h_m := Imm.mono g30 h_m
    have g0 := Gr.of0' g0 g30
    refine rd_gn ?_
    refine rd_nx ?_
    refine seq_join (t := tWhile _ _) (wp_bind hm) (fun (s : (List Int)) (σ : L2.St) (H : Hp) => ∃ (o39 : Option V) (o40 : Option V) (o41 : Option V), σ = [some v_a, some v_m, some (.int a_p), some (.ref p6), o39, o40, o41, none] ∧ Gr [p6] H20 H ∧ Ls rI H p6 s) (fun N33 hN34 hm => ?_) (fun s35 σ H36 hr37 hm => ?_)
    · have gl38 := Gr.refl (A := [p6]) H20
      refine whl_R (fun (s : (List Int)) (σ : L2.St) (H : Hp) => ∃ (o39 : Option V) (o40 : Option V) (o41 : Option V), σ = [some v_a, some v_m, some (.int a_p), some (.ref p6), o39, o40, o41, none] ∧ Gr [p6] H20 H ∧ Ls rI H p6 s) (by exact wp_N hm (fun s σ' H' hr hz => hN34 s σ' H' hr hz)) ⟨_, _, _, rfl, gl38, h31⟩ (fun s42 σ H43 N45 W46 m47 hW48 hr44 hm => ?_)
      unfold m__law_rest_b2 at hm
      obtain ⟨o53, o54, o55, rfl, g51, h52⟩ := hr44
      have h_m := Imm.mono g51 h_m
      have g0 := Gr.many g0 (all1 ((.inr nw8)) all0) g51
      have gl38 := Gr.many gl38 (all1 ((.inl (by simp))) all0) g51
      refine rd_T (rd_op (rd_cb (rd_cons (rd_var rfl (rd_nil (len_L (Ls.q h52) (rd_cb (rd_cons (rd_var rfl (rd_nil (len_T h_m (rd_rI0 (rd_kB ?_)))))))))))))
      refine iteB' (fun e56 => ?_) (fun e56 => ?_)
      · exact ifF e56 hm _ _ ⟨_, _, _, rfl, gl38, h52⟩
      have hm := ifT e56 hm
      unfold m__law_rest_b4 at hm
      refine ⟨N45, hW48, ?_⟩
      refine rd_seq (rd_asg (rd_op (rd_var rfl (rd_op (rd_cb (rd_cons (rd_var rfl (rd_nil (len_L (Ls.q h52) (rd_c (rd_rI0 (ix_L (Ls.q h52) (wp_bind hm) fun t57 v58 h59 hm => ?_))))))))))))
      obtain rfl := h59
      refine rd_gn ?_
      refine rd_nx ?_
      refine rd_seq (rd_asg (rd_op (rd_cb (rd_cons (rd_var rfl (rd_nil (len_L (Ls.q h52) (rd_cb (rd_cons (rd_var rfl (rd_nil (len_T h_m (rd_rI0 (rd_gn ?_))))))))))))))
      refine rd_nx ?_
      refine seq_join (t := tFor _ _ _) (wp_bind hm) (fun (s : (List Int)) (σ : L2.St) (H : Hp) => ∃ (o67 : Option V), σ = [some v_a, some v_m, some (.int a_p), some (.ref p6), some (.int t57), some (.int (((s42).length : Int) - ((a_m).length : Int))), o67, none] ∧ Gr [p6] H43 H ∧ Ls rI H p6 s) (fun N61 hN62 hm => ?_) (fun s63 σ H64 hr65 hm => ?_)
      · have gl66 := Gr.refl (A := [p6]) H43
        obtain ⟨c72, hm⟩ := wp_grd hm
        have gl73 := Gr.refl (A := [p6]) H43
        refine rd_for (rd_r1 (rd_cons (rd_cb (rd_cons (rd_var rfl (rd_nil (len_T h_m (rd_nil ⟨_, rfl, c72.1, c72.2, for_rngR (lo := 0) (n := (((a_m).length : Int)).toNat) (fun (s : (List Int)) (σ : L2.St) (H : Hp) => ∃ (o67 : Option V), σ = [some v_a, some v_m, some (.int a_p), some (.ref p6), some (.int t57), some (.int (((s42).length : Int) - ((a_m).length : Int))), o67, none] ∧ Gr [p6] H43 H ∧ Ls rI H p6 s) (by exact wp_N hm (fun s σ' H' hr hz => hN62 s σ' H' hr hz)) ⟨_, rfl, gl73, h52⟩ (fun x74 s68 σ H69 N71 hr70 hm => ?_)⟩))))))))
        unfold m__law_rest_b3 at hm
        obtain ⟨o80, rfl, g78, h79⟩ := hr70
        have h_m := Imm.mono g78 h_m
        have g0 := Gr.many g0 (all1 ((.inr nw8)) all0) g78
        have gl38 := Gr.many gl38 (all1 ((.inl (by simp))) all0) g78
        have gl73 := Gr.many gl73 (all1 ((.inl (by simp))) all0) g78
        refine rd_gn (rd_asg (rd_op (rd_op (rd_op (rd_var rfl (rd_op (rd_var rfl (rd_var rfl (rd_rI0 (ix_L (Ls.q h79) (wp_bind hm) fun t81 v82 h83 hm => ?_))))))))))
        obtain rfl := h83
        refine rd_op (rd_var rfl (rd_op (rd_var rfl (rd_var rfl (ix_T h_m (wp_bind hm) fun t84 v85 h86 hm => ?_)))))
        obtain rfl := h86
        obtain ⟨c87, hm⟩ := wp_grd hm
        obtain ⟨c88, hm⟩ := wp_grd hm
        refine rd_rI (c87) (rd_rI0 (rd_var rfl (rd_rI c88 (rd_gs (rd_var rfl (rd_op (rd_var rfl (rd_var rfl (rd_rI0 (rd_set h79 rfl (wp_bind hm) fun t89 H90 g91 h92 hm => ?_))))))))))
        have h_m := Imm.mono g91 h_m
        have g0 := Gr.loc g0 nw8 g91
        have gl38 := Gr.at1 gl38 (by simp) g91
        have gl73 := Gr.at1 gl73 (by simp) g91
        exact hm _ _ ⟨_, rfl, gl73, h92⟩
      obtain ⟨o95, rfl, g93, h94⟩ := hr65
      have h_m := Imm.mono g93 h_m
      have g0 := Gr.many g0 (all1 ((.inr nw8)) all0) g93
      have gl38 := Gr.many gl38 (all1 ((.inl (by simp))) all0) g93
      refine rd_drop (rd_bm0 (rd_var rfl ⟨(Ls.ty h94), rd_pop h94 (wp_bind hm) fun t102 v97 H99 g100 h101 h98 hm => ?_⟩))
      have h_m := Imm.mono g100 h_m
      have g0 := Gr.loc g0 nw8 g100
      have gl38 := Gr.at1 gl38 (by simp) g100
      obtain rfl := h98
      exact hm _ _ ⟨_, _, _, rfl, gl38, h101⟩
    obtain ⟨o105, o106, o107, rfl, g103, h104⟩ := hr37
    have h_m := Imm.mono g103 h_m
    have g0 := Gr.many g0 (all1 ((.inr nw8)) all0) g103
    refine rd_ret (rd_call (rd_cons (rd_var rfl (rd_cons (rd_var rfl (rd_nil ⟨_, _, _, rfl, h104, wp_imp (wp_bind hm) (fun t108 hm v111 H109 g110 h112 => ?_) (fun _ e => e)⟩))))))
    have h104 := Ls.g0 g110 h104
    have g0 := g0.of0' g110
    exact hm _ _ g0 h112

abbrev lw_lam1 : LW := lwOf "power_row.<locals>.<lambda>" (aArg 3 (aReturn (aBody 1 (topS 16))))
theorem ndb_lam1 : NdefX.ndefB (defScope (topS 16)) lw_lam1.scope ["m", "p"] = true := by decide +kernel
def m_lam1 (k_m : (List Int)) (k_p : Int) (a_x : (List Int)) (a_y : (List Int)) : R (List Int) :=
  (noEr (m_multiply_rows a_x a_y k_p)).bind fun t1 => (m_divide_rows t1 k_m k_p).bind fun t6 => R.ok t6.2
def spl_lam1 (K : PySem.W.Frag) (C : Xc) : List (Option V) → Sp := fun ws vs H Q E => ∃ (k_m : (List Int)) (vk_m : V) (k_p : Int) (a_x : (List Int)) (va_x : V) (a_y : (List Int)) (va_y : V), ws = [some vk_m, some (.int k_p)] ∧ vs = [va_x, va_y] ∧ (rT K rI) H k_m vk_m ∧ (rT K rI) H a_x va_x ∧ (rT K rI) H a_y va_y ∧ wp (m_lam1 k_m k_p a_x a_y) (fun r => ∀ v H', Gr [] H H' → (rT K rI) H' r v → Q v H') (XEr C [] H E)
theorem nsc_lam1 : NdefX.NScope ["x", "y", "m", "p"] ["x", "y"] ["m", "p"] lw_lam1.scope := NdefX.nscope_by (by decide +kernel)
theorem okl_lam1 {P : Program} {w : World} {K : PySem.W.Frag} {mg : Str → Option Value} {base : Heap} {c_fault c_zd : Addr}  (c_multiply_rows : Cal P w K mg base CX0 3 "multiply_rows" ["a", "b", "p"] (sp_multiply_rows K)) (c_divide_rows : Cal P w K mg base (CX P w) 3 "divide_rows" ["a", "b", "p"] (sp_divide_rows K (⟨some c_fault, some c_zd, none, none, none⟩ : Xc))) : LOk P w K mg base (CX P w) 4 lw_lam1 ["x", "y"] ["m", "p"] (spl_lam1 K (⟨some c_fault, some c_zd, none, none, none⟩ : Xc)) := by
  obtain ⟨f_multiply_rows, fd_multiply_rows, G_multiply_rows, g_multiply_rows, k_multiply_rows, b_multiply_rows⟩ := c_multiply_rows
  obtain ⟨f_divide_rows, fd_divide_rows, G_divide_rows, g_divide_rows, k_divide_rows, b_divide_rows⟩ := c_divide_rows
  refine lok_of nsc_lam1 (fun _ _ _ _ us hl => match us, hl with | [_, _], _ => rfl) (fun ws vs H Q E h => ?_) (fun A outer s H0 vs ws Q E f c cl hr h => ?_)
  · obtain ⟨k_m, vk_m, k_p, a_x, va_x, a_y, va_y, rfl, rfl, hk_m, ha_x, ha_y, hm⟩ := h
    rfl
  · obtain ⟨k_m, vk_m, k_p, a_x, va_x, a_y, va_y, rfl, rfl, hk_m, ha_x, ha_y, hm⟩ := h
    have hm : wp (m_lam1 k_m k_p a_x a_y) _ _ := hm
    unfold m_lam1 at hm
    refine ⟨_, (pe_ix (ix_tupK (K := K) rfl) (pe_callS G_divide_rows (hr.mono (by decide)) (by rfl) g_divide_rows k_divide_rows b_divide_rows (fun σ => passAt (takes_of rfl rfl rfl rfl) σ) (pa_cons (pe_call G_multiply_rows (hr.mono (by decide)) (by rfl) g_multiply_rows k_multiply_rows b_multiply_rows .nil pass0 (pa_cons (pv 0) (pa_cons (pv 1) (pa_cons (pv 3) pa_nil)))) (pa_cons (pv 2) (pa_cons (pv 3) pa_nil)))) pe_int (fun _ _ => rfl)), ?_⟩
    have g0 := Gr.refl (A := []) H0
    refine rd_op (rd_callS (rd_cons (rd_call (rd_cons (rd_var rfl (rd_cons (rd_var rfl (rd_cons (rd_var rfl (rd_nil ⟨_, _, _, _, _, rfl, ha_x, ha_y, wp_imp (wp_bindN hm) (fun t1 hm v4 H2 g3 h5 => ?_) (fun _ e => e)⟩))))))))))
    have hk_m := Imm.mono g3 hk_m
    have ha_x := Imm.mono g3 ha_x
    have ha_y := Imm.mono g3 ha_y
    have g0 := g0.of0' g3
    refine rd_cons (rd_var rfl (rd_cons (rd_var rfl (rd_nil ⟨_, _, _, _, _, rfl, h5, hk_m, wp_imp (wp_bind hm) (fun t6 hm v9 H7 g8 h10 => ?_) (fun _ e => XEr.sub g0 e)⟩))))
    have hk_m := Imm.mono g8 hk_m
    have ha_x := Imm.mono g8 ha_x
    have ha_y := Imm.mono g8 ha_y
    have g0 := g0.of0' g8
    refine rd_c (ix_P21 h10 (by rfl) fun v12 h13 => ?_)
    exact hm _ _ g0 h13

abbrev s_by_squaring : Stmt := topS 5
abbrev n_by_squaring : List Str := ["one", "base", "k", "product", "power", "square", "rest"]
theorem sc_by_squaring : FnScope n_by_squaring ["one", "base", "k", "product"] (defScope s_by_squaring) := ⟨rfl, rfl, rfl, by decide +kernel, rfl, by decide +kernel, by decide +kernel⟩
def m_by_squaring_b1 (s10 : (List Int) × (List Int) × Int) : R Bool :=
  R.ok (decide ((0 : Int) < s10.2.2))
def m_by_squaring_b2 (a_product : ((List Int) → (List Int) → R (List Int))) (s10 : (List Int) × (List Int) × Int) : R ((List Int) × (List Int) × Int) :=
  (if (decide ((s10.2.2 % (2 : Int)) = (1 : Int))) = true then ((a_product s10.1 s10.2.1).bind fun t33 => R.ok t33) else (R.ok s10.1)).bind fun s28 => if (decide ((0 : Int) < (s10.2.2 / (2 : Int)))) = true then ((a_product s10.2.1 s10.2.1).bind fun t43 => R.ok (s28, t43, (s10.2.2 / (2 : Int)))) else (R.ok (s28, s10.2.1, (s10.2.2 / (2 : Int))))
def m_by_squaring (a_one : (List Int)) (a_base : (List Int)) (a_k : Int) (a_product : ((List Int) → (List Int) → R (List Int))) : R (List Int) :=
  (whileR m_by_squaring_b1 (m_by_squaring_b2 a_product) 100000 (a_one, a_base, a_k)).bind fun s4 => R.ok s4.1
def sp_by_squaring (K : PySem.W.Frag) (C : Xc) : Addr → Addr → List (Option V) → Sp := fun lf lc ws vs H Q E => ∃ (k_m : (List Int)) (vk_m : V) (k_p : Int) (a_one : (List Int)) (v_one : V) (a_base : (List Int)) (v_base : V) (a_k : Int), ws = [some vk_m, some (.int k_p)] ∧ vs = [v_one, v_base, (.int a_k), .ref lf] ∧ (rT K rI) H k_m vk_m ∧ (rT K rI) H a_one v_one ∧ (rT K rI) H a_base v_base ∧ H lc = some (CodeO lc lw_lam1.qual) ∧ wp (m_by_squaring a_one a_base a_k (m_lam1 k_m k_p)) (fun r => ∀ v H', Gr [] H H' → (rT K rI) H' r v → Q v H') (XEr C [] H E)
theorem ok_by_squaring {P : Program} {w : World} {K : PySem.W.Frag} {mg : Str → Option Value} {base : Heap} {f : Addr} {fd : FuncData} {c_fault c_zd : Addr} (F : Fun K "by_squaring" "by_squaring" s_by_squaring f fd) (o_lam1 : LOk P w K mg base (CX P w) 4 lw_lam1 ["x", "y"] ["m", "p"] (spl_lam1 K (⟨some c_fault, some c_zd, none, none, none⟩ : Xc))) : FnOkC P w K mg base (CX P w) 5 f fd ["one", "base", "k", "product"] lw_lam1 ["m", "p"] (sp_by_squaring K (⟨some c_fault, some c_zd, none, none, none⟩ : Xc)) := by
  refine fun_okC F sc_by_squaring (fun lf lc ws vs H Q E h => ?_) (fun cdv A outer s H0 vs Q E lf lc cl ws hr T h => ?_)
  · obtain ⟨k_m, vk_m, k_p, a_one, v_one, a_base, v_base, a_k, rfl, rfl, hk_m, h_one, h_base, hcode, hm⟩ := h
    rfl
  · obtain ⟨k_m, vk_m, k_p, a_one, v_one, a_base, v_base, a_k, rfl, rfl, hk_m, h_one, h_base, hcode, hm⟩ := h
    have hm : wp (m_by_squaring a_one a_base a_k (m_lam1 k_m k_p)) _ _ := hm
    unfold m_by_squaring at hm
    refine ⟨_, (pss_cons (ps_set (i := 4) sc_by_squaring.nd rfl (Or.inl rfl) (pv 0)) (pss_cons (ps_set (i := 5) sc_by_squaring.nd rfl (Or.inl rfl) (pv 1)) (pss_cons (ps_set (i := 6) sc_by_squaring.nd rfl (Or.inl rfl) (pv 2)) (pss_cons (ps_while PassesOwn.leaving (pt_cmpR op_gt (pv 6) pe_int (nomark _)) (pss_cons (ps_if (pt_cmpR op_eqI (pe_op op_mod (pv 6) pe_int) pe_int (nomark _)) (pss_one (ps_set (i := 4) sc_by_squaring.nd rfl (Or.inl rfl) (pe_act (i := 3) T rfl o_lam1 (hr) (by decide) (fun σ => passAt (takes_of rfl rfl rfl rfl) σ) rfl (.inl rfl) (pa_cons (pv 4) (pa_cons (pv 5) pa_nil))))) pss_nil) (pss_cons (ps_set (i := 6) sc_by_squaring.nd rfl (Or.inl rfl) (pe_op op_fdiv (pv 6) pe_int)) (pss_one (ps_if (pt_cmpR op_gt (pv 6) pe_int (nomark _)) (pss_one (ps_set (i := 5) sc_by_squaring.nd rfl (Or.inl rfl) (pe_act (i := 3) T rfl o_lam1 (hr) (by decide) (fun σ => passAt (takes_of rfl rfl rfl rfl) σ) rfl (.inl rfl) (pa_cons (pv 5) (pa_cons (pv 5) pa_nil))))) pss_nil))))) (pss_one (ps_ret (pv 4))))))), ?_⟩
    have g0 := Gr.refl (A := []) H0
    have h_product : rF lc lw_lam1.qual H0 () (.ref lf) := rF_of hcode
    refine rd_seq (rd_asg (rd_var rfl (rd_gn ?_)))
    refine rd_nx ?_
    refine rd_seq (rd_asg (rd_var rfl (rd_gn ?_)))
    refine rd_nx ?_
    refine rd_seq (rd_asg (rd_var rfl (rd_gn ?_)))
    refine rd_nx ?_
    refine seq_join (t := tWhile _ _) (wp_bind hm) (fun (s : (List Int) × (List Int) × Int) (σ : L2.St) (H : Hp) => ∃ (w8 : V) (w9 : V), σ = [some v_one, some v_base, some (.int a_k), some (.ref lf), some w8, some w9, some (.int s.2.2)] ∧ Gr [] H0 H ∧ (rT K rI) H s.1 w8 ∧ (rT K rI) H s.2.1 w9) (fun N2 hN3 hm => ?_) (fun s4 σ H5 hr6 hm => ?_)
    · have gl7 := Gr.refl (A := []) H0
      refine whl_R (fun (s : (List Int) × (List Int) × Int) (σ : L2.St) (H : Hp) => ∃ (w8 : V) (w9 : V), σ = [some v_one, some v_base, some (.int a_k), some (.ref lf), some w8, some w9, some (.int s.2.2)] ∧ Gr [] H0 H ∧ (rT K rI) H s.1 w8 ∧ (rT K rI) H s.2.1 w9) (by exact wp_N hm (fun s σ' H' hr hz => hN3 s σ' H' hr hz)) ⟨_, _, rfl, gl7, h_one, h_base⟩ (fun s10 σ H11 N13 W14 m15 hW16 hr12 hm => ?_)
      unfold m_by_squaring_b1 at hm
      obtain ⟨w20, w22, rfl, g19, h21, h23⟩ := hr12
      have hk_m := Imm.mono g19 hk_m
      have h_product := Imm.mono g19 h_product
      have g0 := Gr.of0' g0 g19
      have gl7 := Gr.of0' gl7 g19
      refine rd_T (rd_op (rd_var rfl (rd_c (rd_rI0 (rd_kB ?_)))))
      refine iteB' (fun e24 => ?_) (fun e24 => ?_)
      · exact ifF e24 hm _ _ ⟨_, _, rfl, gl7, h21, h23⟩
      have hm := ifT e24 hm
      unfold m_by_squaring_b2 at hm
      refine ⟨N13, hW16, ?_⟩
      refine seq_join (t := tIfS _ _ _) (wp_bind hm) (fun (s : (List Int)) (σ : L2.St) (H : Hp) => ∃ (w38 : V), σ = [some v_one, some v_base, some (.int a_k), some (.ref lf), some w38, some w22, some (.int s10.2.2)] ∧ Gr [] H11 H ∧ (rT K rI) H s w38) (fun N26 hN27 hm => ?_) (fun s28 σ H29 hr30 hm => ?_)
      · have gl31 := Gr.refl (A := []) H11
        refine rd_if (rd_T (rd_op (rd_op (rd_var rfl (rd_c (rd_rI (by show (0 : Int) < 2; decide) (rd_c (rd_rI0 (rd_kB ?_)))))))))
        refine iteB (fun e32 => ?_) (fun e32 => ?_)
        · have hm := ifT e32 (wp_iteB hm)
          refine rd_asg (rd_act rfl (rd_cons (rd_var rfl (rd_cons (rd_var rfl (rd_nil ⟨h_product, _, _, _, _, _, _, _, rfl, rfl, hk_m, h21, h23, wp_imp (wp_bind hm) (fun t33 hm v36 H34 g35 h37 => ?_) (fun _ e => XEr.sub g0 e)⟩))))))
          have hk_m := Imm.mono g35 hk_m
          have h_product := Imm.mono g35 h_product
          have h21 := Imm.mono g35 h21
          have h23 := Imm.mono g35 h23
          have g0 := g0.of0' g35
          have gl7 := gl7.of0' g35
          have gl31 := gl31.of0' g35
          refine rd_gn ?_
          exact hN27 _ _ _ ⟨_, rfl, gl31, h37⟩ hm
        have hm := ifF e32 (wp_iteB hm)
        exact rd_next (hN27 _ _ _ ⟨_, rfl, gl31, h21⟩ hm)
      obtain ⟨w40, rfl, g39, h41⟩ := hr30
      have hk_m := Imm.mono g39 hk_m
      have h_product := Imm.mono g39 h_product
      have h23 := Imm.mono g39 h23
      have g0 := Gr.of0' g0 g39
      have gl7 := Gr.of0' gl7 g39
      refine rd_seq (rd_asg (rd_op (rd_var rfl (rd_c (rd_rI ⟨by decide, by decide⟩ (rd_gn ?_))))))
      refine rd_nx ?_
      refine rd_if (rd_T (rd_op (rd_var rfl (rd_c (rd_rI0 (rd_kB ?_))))))
      refine iteB (fun e42 => ?_) (fun e42 => ?_)
      · have hm := ifT e42 (wp_iteB hm)
        refine rd_asg (rd_act rfl (rd_cons (rd_var rfl (rd_cons (rd_var rfl (rd_nil ⟨h_product, _, _, _, _, _, _, _, rfl, rfl, hk_m, h23, h23, wp_imp (wp_bind hm) (fun t43 hm v46 H44 g45 h47 => ?_) (fun _ e => XEr.sub g0 e)⟩))))))
        have hk_m := Imm.mono g45 hk_m
        have h_product := Imm.mono g45 h_product
        have h23 := Imm.mono g45 h23
        have h41 := Imm.mono g45 h41
        have g0 := g0.of0' g45
        have gl7 := gl7.of0' g45
        refine rd_gn ?_
        exact hm _ _ ⟨_, _, rfl, gl7, h41, h47⟩
      have hm := ifF e42 (wp_iteB hm)
      exact rd_next (hm _ _ ⟨_, _, rfl, gl7, h41, h23⟩)
    obtain ⟨w49, w51, rfl, g48, h50, h52⟩ := hr6
    have hk_m := Imm.mono g48 hk_m
    have h_product := Imm.mono g48 h_product
    have g0 := Gr.of0' g0 g48
    exact rd_ret (rd_var rfl (hm _ _ g0 h50))

abbrev s_power_row : Stmt := topS 16
abbrev n_power_row : List Str := ["a", "k", "m", "p", "start"]
theorem sc_power_row : FnScope n_power_row ["a", "k", "m", "p"] (defScope s_power_row) := ⟨rfl, rfl, rfl, by decide +kernel, rfl, by decide +kernel, by decide +kernel⟩
def m_power_row (a_a : (List Int)) (a_k : Int) (a_m : (List Int)) (a_p : Int) : R (List Int) :=
  (m_divide_rows a_a a_m a_p).bind fun t1 => (m_by_squaring ([(1 : Int)]) t1.2 a_k (m_lam1 a_m a_p)).bind fun t18 => R.ok t18
def sp_power_row (K : PySem.W.Frag) (C : Xc) (TT : List Addr) : Sp := fun vs H Q E => ∃ (a_a : (List Int)) (v_a : V) (a_k : Int) (a_m : (List Int)) (v_m : V) (a_p : Int), vs = [v_a, (.int a_k), v_m, (.int a_p)] ∧ (rT K rI) H a_a v_a ∧ (rT K rI) H a_m v_m ∧ TabsA TT H ∧ wp (m_power_row a_a a_k a_m a_p) (fun r => ∀ v H', Gr [] H H' → (rT K rI) H' r v → Q v H') (XEr C [] H E)
theorem ok_power_row {P : Program} {w : World} {K : PySem.W.Frag} {mg : Str → Option Value} {base : Heap} {f : Addr} {fd : FuncData} {c_fault c_zd : Addr} {TT : List Addr} {cT PT : Addr} (F : FunT K "power_row" "power_row" s_power_row f fd cT PT) (TB : LamX.TabB base mg cT PT) (hPT : PT ∈ TT) (c_divide_rows : Cal P w K mg base (CX P w) 3 "divide_rows" ["a", "b", "p"] (sp_divide_rows K (⟨some c_fault, some c_zd, none, none, none⟩ : Xc))) (c_by_squaring : CalC P w K mg base (CX P w) 5 "by_squaring" ["one", "base", "k", "product"] lw_lam1 ["m", "p"] (sp_by_squaring K (⟨some c_fault, some c_zd, none, none, none⟩ : Xc))) : FnOk P w K mg base (CX P w) 6 f fd ["a", "k", "m", "p"] (sp_power_row K (⟨some c_fault, some c_zd, none, none, none⟩ : Xc) TT) := by
  obtain ⟨f_divide_rows, fd_divide_rows, G_divide_rows, g_divide_rows, k_divide_rows, b_divide_rows⟩ := c_divide_rows
  obtain ⟨f_by_squaring, fd_by_squaring, G_by_squaring, g_by_squaring, k_by_squaring, b_by_squaring⟩ := c_by_squaring
  refine funT_okX F sc_power_row (fun vs H Q E h => ?_) (fun A outer s H0 vs Q E hr h => ?_)
  · obtain ⟨a_a, v_a, a_k, a_m, v_m, a_p, rfl, h_a, h_m, hTT, hm⟩ := h
    rfl
  · obtain ⟨a_a, v_a, a_k, a_m, v_m, a_p, rfl, h_a, h_m, hTT, hm⟩ := h
    have hm : wp (m_power_row a_a a_k a_m a_p) _ _ := hm
    unfold m_power_row at hm
    refine ⟨_, (pss_cons (ps_set (i := 4) sc_power_row.nd rfl (Or.inl rfl) (pe_ix (ix_tupK (K := K) rfl) (pe_callS G_divide_rows (hr.mono (by decide)) (by rfl) g_divide_rows k_divide_rows b_divide_rows (fun σ => passAt (takes_of rfl rfl rfl rfl) σ) (pa_cons (pv 0) (pa_cons (pv 2) (pa_cons (pv 3) pa_nil)))) pe_int (fun _ _ => rfl))) (pss_one (ps_ret (pe_callL (js := [2, 3]) G_by_squaring (hr.mono (by decide)) (by rfl) g_by_squaring k_by_squaring b_by_squaring (fun σ => passAt (takes_of rfl rfl rfl rfl) σ) (fun ok => Caps.made ok (ndef_free ndb_lam1) (ndef_fr ndb_lam1) rfl) (pl_cons (pe_tup (pa_cons pe_int pa_nil)) (pl_cons (pv 4) (pl_cons (pv 1) (pl_nil (L := lw_lam1) TB rfl rfl (by decide +kernel) rfl (ndef_free ndb_lam1))))))))), ?_⟩
    have g0 := Gr.refl (A := []) H0
    refine rd_seq (rd_asg (rd_op (rd_callS (rd_cons (rd_var rfl (rd_cons (rd_var rfl (rd_cons (rd_var rfl (rd_nil ⟨_, _, _, _, _, rfl, h_a, h_m, wp_imp (wp_bind hm) (fun t1 hm v4 H2 g3 h5 => ?_) (fun _ e => XEr.sub g0 e)⟩))))))))))
    have h_a := Imm.mono g3 h_a
    have h_m := Imm.mono g3 h_m
    have g0 := g0.of0' g3
    refine rd_c (ix_P21 h5 (by rfl) fun v7 h8 => ?_)
    refine rd_gn ?_
    refine rd_nx ?_
    refine rd_ret (rd_callL (rd_lcons (rd_tup (rd_cons (rd_c (rd_nil (mk_T (K := K) (r := rI) (xs := [(1 : Int)]) (.cons rfl .nil) (by show 1 ≤ sizeLine; decide) fun v9 H10 g11 h12 => ?_)))))))
    have h_m := Imm.mono g11 h_m
    have h8 := Imm.mono g11 h8
    have g0 := g0.of0' g11
    refine rd_lcons (rd_var rfl (rd_lcons (rd_var rfl (rd_lnil (hTT.gr g0 _ hPT) fun lf13 lc14 H15 g16 hc17 => ?_))))
    have h_m := Imm.mono g16 h_m
    have h8 := Imm.mono g16 h8
    have h12 := Imm.mono g16 h12
    have g0 := g0.of0' g16
    refine ⟨_, _, _, _, _, _, _, _, rfl, rfl, h_m, h12, h8, hc17, wp_imp (wp_bind hm) (fun t18 hm v21 H19 g20 h22 => ?_) (fun _ e => XEr.sub g0 e)⟩
    have h_m := Imm.mono g20 h_m
    have h8 := Imm.mono g20 h8
    have g0 := g0.of0' g20
    exact hm _ _ g0 h22

abbrev s_law : Stmt := topS 24
abbrev n_law : List Str := ["script", "state", "p", "turn", "k", "raw", "a", "b", "c", "size", "wide", "g", "quotient", "rest", "power", "row", "x", "y"]
theorem sc_law : FnScope n_law ["script"] (defScope s_law) := ⟨rfl, rfl, rfl, by decide +kernel, rfl, by decide +kernel, by decide +kernel⟩
def m_law_b1 (s59 : List Int × List Int) (x60 : Int) : R (List Int × List Int) :=
  (m__law_take s59.2 (41 : Int)).bind fun t73 => grd (lenLt s59.1) <| R.ok ((s59.1 ++ [(t73.1 - (20 : Int))]), t73.2)
def m_law_b2 (s31 : List (List Int) × List Int) (x32 : Int) : R (List (List Int) × List Int) :=
  (m__law_take s31.2 (6 : Int)).bind fun t45 => grd (rgOk t45.1) <| (foldR m_law_b1 ([], t45.2) (rng 0 (t45.1).toNat)).bind fun s66 => grd (lenLt s31.1) <| R.ok ((s31.1 ++ [s66.1]), s66.2)
def m_law_b3 (t20 : Int) (s105 : List (List Int)) (x106 : (List Int)) : R (List (List Int)) :=
  (m_trimmed x106 t20).bind fun t118 => grd (lenLt s105) <| R.ok (s105 ++ [t118])
def m_law_b4 (t20 : Int) (s159 : List (List Int)) (x160 : (List Int)) : R (List (List Int)) :=
  (m__law_trim x160 t20).bind fun t172 => grd (lenLt s159) <| R.ok (s159 ++ [t172])
def m_law_b5 (s252 : List Int) (x253 : Int) : R (List Int) :=
  grd (lenLt s252) <| R.ok (s252 ++ [(0 : Int)])
def m_law_b6 (t129 : ((List Int) × (List Int) × (List Int))) (s219 : List (List Int)) (x220 : (List Int)) : R (List (List Int)) :=
  grd (rgOk ((pmax ((t129.1).length : Int) ((t129.2.1).length : Int)) - ((x220).length : Int))) <| (foldR m_law_b5 ([]) (rng 0 (((pmax ((t129.1).length : Int) ((t129.2.1).length : Int)) - ((x220).length : Int))).toNat)).bind fun s259 => grd (lenOk (x220 ++ s259)) <| grd (lenLt s219) <| R.ok (s219 ++ [(x220 ++ s259)])
def m_law_b7 (s319 : List Int) (x320 : (Int × Int)) : R (List Int) :=
  grd (lenLt s319) <| R.ok (s319 ++ [(x320.1 + x320.2)])
def m_law_b8 (s384 : List Int) (x385 : (Int × Int)) : R (List Int) :=
  grd (lenLt s384) <| R.ok (s384 ++ [(x385.1 - x385.2)])
def m_law_b9 (t20 : Int) (t129 : ((List Int) × (List Int) × (List Int))) (s563 : (List Int)) (x569 : Int) : R ((List Int)) :=
  (m__law_times s563 t129.1 t20).bind fun t577 => R.ok t577
def m_law (a_script : (List Int)) : R Bool :=
  (m__law_state a_script).bind fun t1 => (m__law_take t1 (6 : Int)).bind fun t16 => (getL ([(2 : Int), (3 : Int), (5 : Int), (7 : Int), (11 : Int), (13 : Int)]) t16.1).bind fun t20 => grd (rgOk (3 : Int)) <| (foldR m_law_b2 ([], t16.2) (rng 0 ((3 : Int)).toNat)).bind fun s38 => (foldR (m_law_b3 t20) ([]) s38.1).bind fun s112 => (un3 s112).bind fun t129 => (orR ((foldR (m_law_b4 t20) ([]) s38.1).bind fun s166 => R.ok (!decide ([t129.1, t129.2.1, t129.2.2] = s166))) ((getL s38.1 (0 : Int)).bind fun t186 => (m_trimmed_2 t186 t20).bind fun t193 => R.ok (!decide (t193 = t129.1)))).bind fun t198 => if t198 = true then (R.ok false) else ((foldR (m_law_b6 t129) ([]) ([(t129.1, t129.2.1).1, (t129.1, t129.2.1).2])).bind fun s226 => (m_add_rows t129.1 t129.2.1 t20).bind fun t290 => (getL s226 (0 : Int)).bind fun t295 => (getL s226 (1 : Int)).bind fun t298 => (foldR m_law_b7 ([]) (t295.zip t298)).bind fun s326 => (m__law_trim_2 s326 t20).bind fun t347 => if (!decide (t290 = t347)) = true then (R.ok false) else ((orR ((m_subtract_rows t129.1 t129.2.1 t20).bind fun t354 => (getL s226 (0 : Int)).bind fun t359 => (getL s226 (1 : Int)).bind fun t362 => (foldR m_law_b8 ([]) (t359.zip t362)).bind fun s391 => (m__law_trim_2 s391 t20).bind fun t412 => R.ok (!decide (t354 = t412))) ((m_multiply_rows t129.1 t129.2.1 t20).bind fun t420 => (m__law_times t129.1 t129.2.1 t20).bind fun t425 => R.ok (!decide (t420 = t425)))).bind fun t430 => if t430 = true then (R.ok false) else ((m__law_refused t129.1 t20).bind fun t434 => if (!t434) = true then (R.ok false) else ((m__law_times t129.1 t129.2.2 t20).bind fun t438 => (m__law_times t129.2.1 t129.2.2 t20).bind fun t443 => (m_common_row t438 t443 t20).bind fun t448 => if (decide (((t448).length : Int) = (0 : Int))) = true then ((orR ((andR (R.ok (decide (((t129.1).length : Int) = (0 : Int)))) (R.ok (decide (((t129.2.1).length : Int) = (0 : Int))))).bind fun t459 => R.ok t459) (R.ok (decide (((t129.2.2).length : Int) = (0 : Int))))).bind fun t467 => R.ok t467) else ((orR ((getL t448 (((t448).length : Int) - (1 : Int))).bind fun t473 => R.ok (!decide (t473 = (1 : Int)))) (orR ((m__law_times t129.1 t129.2.2 t20).bind fun t479 => (m__law_rest t479 t448 t20).bind fun t484 => R.ok (decide ((0 : Int) < ((t484).length : Int)))) ((m__law_times t129.2.1 t129.2.2 t20).bind fun t492 => (m__law_rest t492 t448 t20).bind fun t497 => R.ok (decide ((0 : Int) < ((t497).length : Int)))))).bind fun t502 => if t502 = true then (R.ok false) else ((m_divide_rows t448 t129.2.2 t20).bind fun t506 => if (decide ((0 : Int) < ((t506.2).length : Int))) = true then (R.ok false) else ((m_divide_rows t129.1 t129.2.2 t20).bind fun t515 => (orR (R.ok (decide (((t129.2.2).length : Int) ≤ ((t515.2).length : Int)))) ((m__law_times t515.1 t129.2.2 t20).bind fun t531 => (m_add_rows t531 t515.2 t20).bind fun t536 => R.ok (!decide (t536 = t129.1)))).bind fun t541 => if t541 = true then (R.ok false) else (if (decide (((t129.2.2).length : Int) < (2 : Int))) = true then (R.ok true) else ((m__law_take s38.2 (10 : Int)).bind fun t546 => (grd (rgOk t546.1) <| foldR (m_law_b9 t20 t129) ([(1 : Int)]) (rng 0 (t546.1).toNat)).bind fun s557 => (m_power_row t129.1 t546.1 t129.2.2 t20).bind fun t586 => (m_divide_rows s557 t129.2.2 t20).bind fun t591 => R.ok (decide (t586 = t591.2)))))))))))
def sp_law (K : PySem.W.Frag) (TT : List Addr) : Sp := fun vs H Q _ => ∃ (a_script : (List Int)) (p_script : Addr), vs = [.ref p_script] ∧ Lq K rI H p_script a_script ∧ TabsA TT H ∧ wp (m_law a_script) (fun r => ∀ H', Gr [] H H' → Q (.bl r) H') (fun _ => False)
theorem ok_law {P : Program} {w : World} {K : PySem.W.Frag} {mg : Str → Option Value} {base : Heap} {f : Addr} {fd : FuncData} {c_fault c_zd : Addr} {TT : List Addr} (F : Fun K "law" "law" s_law f fd) (z_range : mg "range" = none) (z_tuple : mg "tuple" = none) (z_len : mg "len" = none) (z_max : mg "max" = none) (z_list : mg "list" = none) (z_zip : mg "zip" = none) (c__law_state : Cal P w K mg base CX0 1 "_law_state" ["script"] (sp__law_state K)) (c__law_take : Cal P w K mg base CX0 1 "_law_take" ["state", "m"] (sp__law_take K)) (c_trimmed : Cal P w K mg base CX0 2 "trimmed" ["row", "p"] (sp_trimmed K)) (c__law_trim : Cal P w K mg base CX0 1 "_law_trim" ["row", "p"] (sp__law_trim K)) (c_trimmed_2 : Cal P w K mg base CX0 2 "trimmed" ["row", "p"] (sp_trimmed_2 K)) (c_add_rows : Cal P w K mg base CX0 3 "add_rows" ["a", "b", "p"] (sp_add_rows K)) (c__law_trim_2 : Cal P w K mg base CX0 1 "_law_trim" ["row", "p"] (sp__law_trim_2 K)) (c_subtract_rows : Cal P w K mg base CX0 4 "subtract_rows" ["a", "b", "p"] (sp_subtract_rows K)) (c_multiply_rows : Cal P w K mg base CX0 3 "multiply_rows" ["a", "b", "p"] (sp_multiply_rows K)) (c__law_times : Cal P w K mg base CX0 2 "_law_times" ["a", "b", "p"] (sp__law_times K)) (c__law_refused : Cal P w K mg base CX0 4 "_law_refused" ["a", "p"] (sp__law_refused K)) (c_common_row : Cal P w K mg base (CX P w) 4 "common_row" ["a", "b", "p"] (sp_common_row K (⟨some c_fault, some c_zd, none, none, none⟩ : Xc))) (c__law_rest : Cal P w K mg base CX0 2 "_law_rest" ["a", "m", "p"] (sp__law_rest K)) (c_divide_rows : Cal P w K mg base (CX P w) 3 "divide_rows" ["a", "b", "p"] (sp_divide_rows K (⟨some c_fault, some c_zd, none, none, none⟩ : Xc))) (c_power_row : Cal P w K mg base (CX P w) 6 "power_row" ["a", "k", "m", "p"] (sp_power_row K (⟨some c_fault, some c_zd, none, none, none⟩ : Xc) TT)) : FnOk P w K mg base CX0 7 f fd ["script"] (sp_law K TT) := by
  obtain ⟨f__law_state, fd__law_state, G__law_state, g__law_state, k__law_state, b__law_state⟩ := c__law_state
  obtain ⟨f__law_take, fd__law_take, G__law_take, g__law_take, k__law_take, b__law_take⟩ := c__law_take
  obtain ⟨f_trimmed, fd_trimmed, G_trimmed, g_trimmed, k_trimmed, b_trimmed⟩ := c_trimmed
  obtain ⟨f__law_trim, fd__law_trim, G__law_trim, g__law_trim, k__law_trim, b__law_trim⟩ := c__law_trim
  obtain ⟨f_trimmed_2, fd_trimmed_2, G_trimmed_2, g_trimmed_2, k_trimmed_2, b_trimmed_2⟩ := c_trimmed_2
  obtain ⟨f_add_rows, fd_add_rows, G_add_rows, g_add_rows, k_add_rows, b_add_rows⟩ := c_add_rows
  obtain ⟨f__law_trim_2, fd__law_trim_2, G__law_trim_2, g__law_trim_2, k__law_trim_2, b__law_trim_2⟩ := c__law_trim_2
  obtain ⟨f_subtract_rows, fd_subtract_rows, G_subtract_rows, g_subtract_rows, k_subtract_rows, b_subtract_rows⟩ := c_subtract_rows
  obtain ⟨f_multiply_rows, fd_multiply_rows, G_multiply_rows, g_multiply_rows, k_multiply_rows, b_multiply_rows⟩ := c_multiply_rows
  obtain ⟨f__law_times, fd__law_times, G__law_times, g__law_times, k__law_times, b__law_times⟩ := c__law_times
  obtain ⟨f__law_refused, fd__law_refused, G__law_refused, g__law_refused, k__law_refused, b__law_refused⟩ := c__law_refused
  obtain ⟨f_common_row, fd_common_row, G_common_row, g_common_row, k_common_row, b_common_row⟩ := c_common_row
  obtain ⟨f__law_rest, fd__law_rest, G__law_rest, g__law_rest, k__law_rest, b__law_rest⟩ := c__law_rest
  obtain ⟨f_divide_rows, fd_divide_rows, G_divide_rows, g_divide_rows, k_divide_rows, b_divide_rows⟩ := c_divide_rows
  obtain ⟨f_power_row, fd_power_row, G_power_row, g_power_row, k_power_row, b_power_row⟩ := c_power_row
  refine F.ok sc_law (fun vs H Q E h => ?_) (fun cdv A outer s H0 vs Q E hr h => ?_)
  · obtain ⟨a_script, p_script, rfl, h_script, hTT, hm⟩ := h
    rfl
  · obtain ⟨a_script, p_script, rfl, h_script, hTT, hm⟩ := h
    have hm : wp (m_law a_script) _ _ := hm
    unfold m_law at hm
    refine ⟨_, (pss_cons (ps_set (i := 1) sc_law.nd rfl (Or.inr rfl) (pe_call G__law_state (hr.mono (by decide)) (by rfl) g__law_state k__law_state b__law_state .nil pass0 (pa_cons (pv 0) pa_nil))) (pss_cons (ps_set (i := 2) sc_law.nd rfl (Or.inr rfl) (pe_ix (ix_listK (K := K) rfl) (pe_lst (pa_cons pe_int (pa_cons pe_int (pa_cons pe_int (pa_cons pe_int (pa_cons pe_int (pa_cons pe_int pa_nil))))))) (pe_call G__law_take (hr.mono (by decide)) (by rfl) g__law_take k__law_take b__law_take .nil pass0 (pa_cons (pv 1) (pa_cons pe_int pa_nil))) (fun _ _ => rfl))) (pss_cons (ps_setLc (i := 5) (own := [("turn", 3)]) (g := gName 3) (tt := tYes) rfl sc_law.nd rfl rfl (sw_true rfl rfl rfl (by decide +kernel)) (pi_range1 (by rfl) z_range (pa_cons pe_int pa_nil)) (blkOk_by (own := [("turn", 3)]) (N := n_law) (sc := defScope s_law) (by decide +kernel)) (fun _ _ _ _ _ => pg_name (i := 3) sc_law.nd rfl (Or.inl rfl)) (fun _ _ _ _ _ => pts_nil) (fun _ _ _ _ _ => (pe_frz (pe_lc (own := [("k", 4)]) (g := gName 4) (tt := tYes) rfl sc_law.nd (pi_range1 (by rfl) z_range (pa_cons (pe_call G__law_take (hr.mono (by decide)) (by rfl) g__law_take k__law_take b__law_take .nil pass0 (pa_cons (pv 1) (pa_cons pe_int pa_nil))) pa_nil)) (blkOk_by (by kernel_rfl)) (fun _ _ _ _ _ => pg_name (i := 4) sc_law.nd rfl (Or.inl rfl)) (fun _ _ _ _ _ => pts_nil) (fun _ _ _ _ _ => (pe_op op_sub (pe_call G__law_take (hr.mono (by decide)) (by rfl) g__law_take k__law_take b__law_take .nil pass0 (pa_cons (pv 1) (pa_cons pe_int pa_nil))) pe_int)))))) (pss_cons (ps_asg (pe_lc (own := [("row", 15)]) (g := gName 15) (tt := tYes) rfl sc_law.nd (pi_listK (K := K) (pv 5) rfl) (blkOk_by (own := [("row", 15)]) (N := n_law) (sc := defScope s_law) (by decide +kernel)) (fun _ _ _ _ _ => pg_name (i := 15) sc_law.nd rfl (Or.inl rfl)) (fun _ _ _ _ _ => pts_nil) (fun _ _ _ _ _ => (pe_call G_trimmed (hr.mono (by decide)) (by rfl) g_trimmed k_trimmed b_trimmed .nil pass0 (pa_cons (pv 15) (pa_cons (pv 2) pa_nil))))) (pg_lst rfl (pgs_cons (pg_name (i := 6) sc_law.nd rfl (Or.inl rfl)) (pgs_cons (pg_name (i := 7) sc_law.nd rfl (Or.inl rfl)) (pgs_cons (pg_name (i := 8) sc_law.nd rfl (Or.inl rfl)) pgs_nil))))) (pss_cons (ps_if (PW.pt (pw_or (pt_cmpR (neDK (K := K) hr.units rfl) (pe_lst (pa_cons (pv 6) (pa_cons (pv 7) (pa_cons (pv 8) pa_nil)))) (pe_lc (own := [("row", 15)]) (g := gName 15) (tt := tYes) rfl sc_law.nd (pi_listK (K := K) (pv 5) rfl) (blkOk_by (own := [("row", 15)]) (N := n_law) (sc := defScope s_law) (by decide +kernel)) (fun _ _ _ _ _ => pg_name (i := 15) sc_law.nd rfl (Or.inl rfl)) (fun _ _ _ _ _ => pts_nil) (fun _ _ _ _ _ => (pe_call G__law_trim (hr.mono (by decide)) (by rfl) g__law_trim k__law_trim b__law_trim .nil pass0 (pa_cons (pv 15) (pa_cons (pv 2) pa_nil))))) (nomark _)) (pw_or1 (pt_cmpR (neDK (K := K) hr.units rfl) (pe_call G_trimmed_2 (hr.mono (by decide)) (by rfl) g_trimmed_2 k_trimmed_2 b_trimmed_2 .nil pass0 (pa_cons (pe_callTy (tupleK (K := K) rfl) (by rfl) z_tuple (by decide +kernel) (pa_cons (pe_ix (ix_listK (K := K) rfl) (pv 5) pe_int (fun _ _ => rfl)) pa_nil)) (pa_cons (pv 2) pa_nil))) (pv 6) (nomark _))))) (pss_one (ps_ret pe_bl)) pss_nil) (pss_cons (ps_set (i := 9) sc_law.nd rfl (Or.inr rfl) (pe_callB (call_max2 rfl) (by rfl) z_max (by decide +kernel) (pa_cons (pe_callB (lenK (K := K) rfl) (by rfl) z_len PySem.boot_len (pa_cons (pv 6) pa_nil)) (pa_cons (pe_callB (lenK (K := K) rfl) (by rfl) z_len PySem.boot_len (pa_cons (pv 7) pa_nil)) pa_nil)))) (pss_cons (ps_setLc (i := 10) (own := [("row", 15)]) (g := gName 15) (tt := tYes) rfl sc_law.nd rfl rfl (sw_true rfl rfl rfl (by decide +kernel)) (pi_tupK (K := K) (pe_tup (pa_cons (pv 6) (pa_cons (pv 7) pa_nil))) rfl) (blkOk_by (own := [("row", 15)]) (N := n_law) (sc := defScope s_law) (by decide +kernel)) (fun _ _ _ _ _ => pg_name (i := 15) sc_law.nd rfl (Or.inl rfl)) (fun _ _ _ _ _ => pts_nil) (fun _ _ _ _ _ => (pe_frz (pe_op op_cat (pe_callTy (listK (K := K) rfl) (by rfl) z_list (by decide +kernel) (pa_cons (pv 15) pa_nil)) (pe_lc (own := [("k", 4)]) (g := gName 4) (tt := tYes) rfl sc_law.nd (pi_range1 (by rfl) z_range (pa_cons (pe_op op_sub (pv 9) (pe_callB (lenK (K := K) rfl) (by rfl) z_len PySem.boot_len (pa_cons (pv 15) pa_nil))) pa_nil)) (blkOk_by (by kernel_rfl)) (fun _ _ _ _ _ => pg_name (i := 4) sc_law.nd rfl (Or.inl rfl)) (fun _ _ _ _ _ => pts_nil) (fun _ _ _ _ _ => pe_int)))))) (pss_cons (ps_if (pt_cmpR (neDK (K := K) hr.units rfl) (pe_call G_add_rows (hr.mono (by decide)) (by rfl) g_add_rows k_add_rows b_add_rows .nil pass0 (pa_cons (pv 6) (pa_cons (pv 7) (pa_cons (pv 2) pa_nil)))) (pe_call G__law_trim_2 (hr.mono (by decide)) (by rfl) g__law_trim_2 k__law_trim_2 b__law_trim_2 .nil pass0 (pa_cons (pe_lc (own := [("x", 16), ("y", 17)]) (g := (gTup K 2 (gCons (gName 16) (gCons (gName 17) gNil)))) (tt := tYes) rfl sc_law.nd (pi_zipK (K := K) (by rfl) z_zip (pa_cons (pe_ix (ix_listK (K := K) rfl) (pv 10) pe_int (fun _ _ => rfl)) (pa_cons (pe_ix (ix_listK (K := K) rfl) (pv 10) pe_int (fun _ _ => rfl)) pa_nil)) rfl) (blkOk_by (own := [("x", 16), ("y", 17)]) (N := n_law) (sc := defScope s_law) (by decide +kernel)) (fun _ _ _ _ _ => pg_tup rfl (pgs_cons (pg_name (i := 16) sc_law.nd rfl (Or.inl rfl) (Or.inr rfl)) (pgs_cons (pg_name (i := 17) sc_law.nd rfl (Or.inl rfl) (Or.inr rfl)) pgs_nil))) (fun _ _ _ _ _ => pts_nil) (fun _ _ _ _ _ => (pe_op op_add (pv 16) (pv 17)))) (pa_cons (pv 2) pa_nil))) (nomark _)) (pss_one (ps_ret pe_bl)) pss_nil) (pss_cons (ps_if (PW.pt (pw_or (pt_cmpR (neDK (K := K) hr.units rfl) (pe_call G_subtract_rows (hr.mono (by decide)) (by rfl) g_subtract_rows k_subtract_rows b_subtract_rows .nil pass0 (pa_cons (pv 6) (pa_cons (pv 7) (pa_cons (pv 2) pa_nil)))) (pe_call G__law_trim_2 (hr.mono (by decide)) (by rfl) g__law_trim_2 k__law_trim_2 b__law_trim_2 .nil pass0 (pa_cons (pe_lc (own := [("x", 16), ("y", 17)]) (g := (gTup K 2 (gCons (gName 16) (gCons (gName 17) gNil)))) (tt := tYes) rfl sc_law.nd (pi_zipK (K := K) (by rfl) z_zip (pa_cons (pe_ix (ix_listK (K := K) rfl) (pv 10) pe_int (fun _ _ => rfl)) (pa_cons (pe_ix (ix_listK (K := K) rfl) (pv 10) pe_int (fun _ _ => rfl)) pa_nil)) rfl) (blkOk_by (own := [("x", 16), ("y", 17)]) (N := n_law) (sc := defScope s_law) (by decide +kernel)) (fun _ _ _ _ _ => pg_tup rfl (pgs_cons (pg_name (i := 16) sc_law.nd rfl (Or.inl rfl) (Or.inr rfl)) (pgs_cons (pg_name (i := 17) sc_law.nd rfl (Or.inl rfl) (Or.inr rfl)) pgs_nil))) (fun _ _ _ _ _ => pts_nil) (fun _ _ _ _ _ => (pe_op op_sub (pv 16) (pv 17)))) (pa_cons (pv 2) pa_nil))) (nomark _)) (pw_or1 (pt_cmpR (neDK (K := K) hr.units rfl) (pe_call G_multiply_rows (hr.mono (by decide)) (by rfl) g_multiply_rows k_multiply_rows b_multiply_rows .nil pass0 (pa_cons (pv 6) (pa_cons (pv 7) (pa_cons (pv 2) pa_nil)))) (pe_call G__law_times (hr.mono (by decide)) (by rfl) g__law_times k__law_times b__law_times .nil pass0 (pa_cons (pv 6) (pa_cons (pv 7) (pa_cons (pv 2) pa_nil)))) (nomark _))))) (pss_one (ps_ret pe_bl)) pss_nil) (pss_cons (ps_if (pt_not (pt_val (pe_call G__law_refused (hr.mono (by decide)) (by rfl) g__law_refused k__law_refused b__law_refused .nil pass0 (pa_cons (pv 6) (pa_cons (pv 2) pa_nil))))) (pss_one (ps_ret pe_bl)) pss_nil) (pss_cons (ps_set (i := 11) sc_law.nd rfl (Or.inl rfl) (pe_call G_common_row (hr.mono (by decide)) (by rfl) g_common_row k_common_row b_common_row .nil passL (pa_cons (pe_call G__law_times (hr.mono (by decide)) (by rfl) g__law_times k__law_times b__law_times .nil pass0 (pa_cons (pv 6) (pa_cons (pv 8) (pa_cons (pv 2) pa_nil)))) (pa_cons (pe_call G__law_times (hr.mono (by decide)) (by rfl) g__law_times k__law_times b__law_times .nil pass0 (pa_cons (pv 7) (pa_cons (pv 8) (pa_cons (pv 2) pa_nil)))) (pa_cons (pv 2) pa_nil))))) (pss_cons (ps_if (pt_cmpR op_eqI (pe_callB (lenK (K := K) rfl) (by rfl) z_len PySem.boot_len (pa_cons (pv 11) pa_nil)) pe_int (nomark _)) (pss_one (ps_ret (pe_or (pe_and (pe_cmpR op_eqI (pe_callB (lenK (K := K) rfl) (by rfl) z_len PySem.boot_len (pa_cons (pv 6) pa_nil)) pe_int (nomark _)) (pe_one (pe_cmpR op_eqI (pe_callB (lenK (K := K) rfl) (by rfl) z_len PySem.boot_len (pa_cons (pv 7) pa_nil)) pe_int (nomark _)))) (pe_one (pe_cmpR op_eqI (pe_callB (lenK (K := K) rfl) (by rfl) z_len PySem.boot_len (pa_cons (pv 8) pa_nil)) pe_int (nomark _)))))) pss_nil) (pss_cons (ps_if (PW.pt (pw_or (pt_cmpR op_neI (pe_ix (ix_tupK (K := K) rfl) (pv 11) (pe_op op_sub (pe_callB (lenK (K := K) rfl) (by rfl) z_len PySem.boot_len (pa_cons (pv 11) pa_nil)) pe_int) (fun _ _ => rfl)) pe_int (nomark _)) (pw_or (pt_cmpR op_gt (pe_callB (lenK (K := K) rfl) (by rfl) z_len PySem.boot_len (pa_cons (pe_call G__law_rest (hr.mono (by decide)) (by rfl) g__law_rest k__law_rest b__law_rest .nil pass0 (pa_cons (pe_call G__law_times (hr.mono (by decide)) (by rfl) g__law_times k__law_times b__law_times .nil pass0 (pa_cons (pv 6) (pa_cons (pv 8) (pa_cons (pv 2) pa_nil)))) (pa_cons (pv 11) (pa_cons (pv 2) pa_nil)))) pa_nil)) pe_int (nomark _)) (pw_or1 (pt_cmpR op_gt (pe_callB (lenK (K := K) rfl) (by rfl) z_len PySem.boot_len (pa_cons (pe_call G__law_rest (hr.mono (by decide)) (by rfl) g__law_rest k__law_rest b__law_rest .nil pass0 (pa_cons (pe_call G__law_times (hr.mono (by decide)) (by rfl) g__law_times k__law_times b__law_times .nil pass0 (pa_cons (pv 7) (pa_cons (pv 8) (pa_cons (pv 2) pa_nil)))) (pa_cons (pv 11) (pa_cons (pv 2) pa_nil)))) pa_nil)) pe_int (nomark _)))))) (pss_one (ps_ret pe_bl)) pss_nil) (pss_cons (ps_if (pt_cmpR op_gt (pe_callB (lenK (K := K) rfl) (by rfl) z_len PySem.boot_len (pa_cons (pe_ix (ix_tupK (K := K) rfl) (pe_call G_divide_rows (hr.mono (by decide)) (by rfl) g_divide_rows k_divide_rows b_divide_rows .nil passL (pa_cons (pv 11) (pa_cons (pv 8) (pa_cons (pv 2) pa_nil)))) pe_int (fun _ _ => rfl)) pa_nil)) pe_int (nomark _)) (pss_one (ps_ret pe_bl)) pss_nil) (pss_cons (ps_asg (pe_call G_divide_rows (hr.mono (by decide)) (by rfl) g_divide_rows k_divide_rows b_divide_rows .nil passL (pa_cons (pv 6) (pa_cons (pv 8) (pa_cons (pv 2) pa_nil)))) (pg_tup rfl (pgs_cons (pg_name (i := 12) sc_law.nd rfl (Or.inl rfl)) (pgs_cons (pg_name (i := 13) sc_law.nd rfl (Or.inl rfl)) pgs_nil)))) (pss_cons (ps_if (PW.pt (pw_or (pt_cmpR op_ge (pe_callB (lenK (K := K) rfl) (by rfl) z_len PySem.boot_len (pa_cons (pv 13) pa_nil)) (pe_callB (lenK (K := K) rfl) (by rfl) z_len PySem.boot_len (pa_cons (pv 8) pa_nil)) (nomark _)) (pw_or1 (pt_cmpR (neDK (K := K) hr.units rfl) (pe_call G_add_rows (hr.mono (by decide)) (by rfl) g_add_rows k_add_rows b_add_rows .nil pass0 (pa_cons (pe_call G__law_times (hr.mono (by decide)) (by rfl) g__law_times k__law_times b__law_times .nil pass0 (pa_cons (pv 12) (pa_cons (pv 8) (pa_cons (pv 2) pa_nil)))) (pa_cons (pv 13) (pa_cons (pv 2) pa_nil)))) (pv 6) (nomark _))))) (pss_one (ps_ret pe_bl)) pss_nil) (pss_cons (ps_if (pt_cmpR op_lt (pe_callB (lenK (K := K) rfl) (by rfl) z_len PySem.boot_len (pa_cons (pv 8) pa_nil)) pe_int (nomark _)) (pss_one (ps_ret pe_bl)) pss_nil) (pss_cons (ps_set (i := 4) sc_law.nd rfl (Or.inl rfl) (pe_call G__law_take (hr.mono (by decide)) (by rfl) g__law_take k__law_take b__law_take .nil pass0 (pa_cons (pv 1) (pa_cons pe_int pa_nil)))) (pss_cons (ps_set (i := 14) sc_law.nd rfl (Or.inl rfl) (pe_tup (pa_cons pe_int pa_nil))) (pss_cons (ps_for PassesOwn.never rfl (pi_range1 (by rfl) z_range (pa_cons (pv 4) pa_nil)) (pg_name (i := 3) sc_law.nd rfl (Or.inl rfl)) (pss_one (ps_set (i := 14) sc_law.nd rfl (Or.inl rfl) (pe_call G__law_times (hr.mono (by decide)) (by rfl) g__law_times k__law_times b__law_times .nil pass0 (pa_cons (pv 14) (pa_cons (pv 6) (pa_cons (pv 2) pa_nil))))))) (pss_one (ps_ret (pe_cmpR (eqDK (K := K) hr.units rfl) (pe_call G_power_row (hr.mono (by decide)) (by rfl) g_power_row k_power_row b_power_row .nil passL (pa_cons (pv 6) (pa_cons (pv 4) (pa_cons (pv 8) (pa_cons (pv 2) pa_nil))))) (pe_ix (ix_tupK (K := K) rfl) (pe_call G_divide_rows (hr.mono (by decide)) (by rfl) g_divide_rows k_divide_rows b_divide_rows .nil passL (pa_cons (pv 14) (pa_cons (pv 8) (pa_cons (pv 2) pa_nil)))) pe_int (fun _ _ => rfl)) (nomark _)))))))))))))))))))))))), ?_⟩
    have g0 := Gr.refl (A := []) H0
    refine rd_seq (rd_asg (rd_call (rd_cons (rd_var rfl (rd_nil ⟨_, _, rfl, h_script, wp_imp (wp_bind hm) (fun t1 hm p4 H2 g3 n5 h6 => ?_) (fun _ e => e)⟩)))))
    have nw8 := Gr.free g0 n5
    have h_script := Lq.g0 g3 h_script
    have g0 := g0.of0' g3
    refine rd_gn ?_
    refine rd_nx ?_
    refine rd_seq (rd_asg (rd_op (rd_lst (rd_cons (rd_c (rd_cons (rd_c (rd_cons (rd_c (rd_cons (rd_c (rd_cons (rd_c (rd_cons (rd_c (rd_nil (mk_L (r := rI) (xs := [(2 : Int), (3 : Int), (5 : Int), (7 : Int), (11 : Int), (13 : Int)]) (.cons rfl (.cons rfl (.cons rfl (.cons rfl (.cons rfl (.cons rfl .nil)))))) (by show 6 ≤ sizeLine; decide) fun p9 H10 n11 g12 h13 => ?_)))))))))))))))))
    have ne14 : p4 ≠ p9 := Ls.ne h6 n11
    have nw15 := Gr.free g0 n11
    have h6 := Ls.g0 g12 h6
    have g0 := g0.of0' g12
    refine rd_call (rd_cons (rd_var rfl (rd_cons (rd_c (rd_nil ⟨_, _, _, rfl, h6, wp_imp (wp_bind hm) (fun t16 hm H17 g18 h19 => ?_) (fun _ e => e)⟩)))))
    have h13 := Ls.g1 g18 (Ne.symm ne14) h13
    have g0 := Gr.loc g0 nw8 g18
    refine ix_L (Ls.q h13) (wp_bind hm) fun t20 v21 h22 hm => ?_
    obtain rfl := h22
    refine rd_gn ?_
    refine rd_nx ?_
    obtain ⟨c23, hm⟩ := wp_grd hm
    refine rd_seq (rd_asg (rd_lc (rd_r1 (rd_cons (rd_c (rd_nil ⟨_, rfl, c23.1, c23.2, fun p24 n25 => ?_⟩))))))
    have ne26 : p4 ≠ p24 := Ls.ne h19 n25
    have nw27 := Gr.free g0 n25
    refine lc_rng (lo := 0) (n := ((3 : Int)).toNat) (fun (s : List (List Int) × List Int) (H : Hp) => Gr [p4] H17 H ∧ Ls (rZ rI) H p24 s.1 ∧ Ls rI H p4 s.2) (wp_bind hm) ⟨Gr.new n25, ⟨[], upd_same, .nil⟩, Ls.g0 (Gr.new (A := []) n25) h19⟩ (fun x32 s31 H35 N36 hr37 hm => ?_) (fun s38 H39 hr40 hm => ?_)
    · unfold m_law_b2 at hm
      obtain ⟨g41, h42, h43⟩ := hr37
      have g0 := Gr.many g0 (all1 ((.inr nw8)) all0) g41
      have gl44 := g41
      refine rd_gn ⟨rfl, rd_yes (iteT (rd_frzE (rd_lc (rd_r1 (rd_cons (rd_call (rd_cons (rd_var rfl (rd_cons (rd_c (rd_nil ⟨_, _, _, rfl, h43, wp_imp (wp_bind hm) (fun t45 hm H46 g47 h48 => ?_) (fun _ e => e)⟩)))))))))))⟩
      have h42 := Ls.g1 g47 (Ne.symm ne26) h42
      have g0 := Gr.loc g0 nw8 g47
      have gl44 := Gr.at1 gl44 (by simp) g47
      obtain ⟨c49, hm⟩ := wp_grd hm
      refine rd_nil ⟨_, rfl, c49.1, c49.2, fun p50 n51 => ?_⟩
      have ne52 : p4 ≠ p50 := Ls.ne h48 n51
      have ne53 : p24 ≠ p50 := Ls.ne h42 n51
      have nw54 := Gr.free g0 n51
      have nw55 := Gr.free gl44 n51
      refine lc_rng (lo := 0) (n := (t45.1).toNat) (fun (s : List Int × List Int) (H : Hp) => Gr [p4] H46 H ∧ Ls rI H p50 s.1 ∧ Ls rI H p4 s.2) (wp_bind hm) ⟨Gr.new n51, ⟨[], upd_same, .nil⟩, Ls.g0 (Gr.new (A := []) n51) h48⟩ (fun x60 s59 H63 N64 hr65 hm => ?_) (fun s66 H67 hr68 hm => ?_)
      · unfold m_law_b1 at hm
        obtain ⟨g69, h70, h71⟩ := hr65
        have h42 := Ls.gA g69 (nin1 (Ne.symm ne26) nin0) h42
        have g0 := Gr.many g0 (all1 ((.inr nw8)) all0) g69
        have gl44 := Gr.many gl44 (all1 ((.inl (by simp))) all0) g69
        have gl72 := g69
        refine rd_gn ⟨rfl, rd_yes (iteT (rd_op (rd_call (rd_cons (rd_var rfl (rd_cons (rd_c (rd_nil ⟨_, _, _, rfl, h71, wp_imp (wp_bind hm) (fun t73 hm H74 g75 h76 => ?_) (fun _ e => e)⟩))))))))⟩
        have h42 := Ls.g1 g75 (Ne.symm ne26) h42
        have h70 := Ls.g1 g75 (Ne.symm ne52) h70
        have g0 := Gr.loc g0 nw8 g75
        have gl44 := Gr.at1 gl44 (by simp) g75
        have gl72 := Gr.at1 gl72 (by simp) g75
        obtain ⟨c77, hm⟩ := wp_grd hm
        refine rd_c (rd_rI0 (lc_add h70 rfl c77 fun H78 g79 h80 => ?_))
        have h76 := Ls.g1 g79 ne52 h76
        have h42 := Ls.g1 g79 ne53 h42
        have g0 := Gr.loc g0 nw54 g79
        have gl44 := Gr.loc gl44 nw55 g79
        have gl72 := Gr.loc gl72 n51 g79
        exact hm _ ⟨gl72, h80, h76⟩
      obtain ⟨g81, h82, h83⟩ := hr68
      have h42 := Ls.gA g81 (nin1 (Ne.symm ne26) nin0) h42
      have g0 := Gr.many g0 (all1 ((.inr nw8)) all0) g81
      have gl44 := Gr.many gl44 (all1 ((.inl (by simp))) all0) g81
      refine fz_L h82 fun H84 f85 h86 => ?_
      have h83 := Ls.fz f85 ne52 h83
      have h42 := Ls.fz f85 ne53 h42
      have g0 := Gr.fz g0 nw54 f85
      have gl44 := Gr.fz gl44 nw55 f85
      obtain ⟨c87, hm⟩ := wp_grd hm
      refine lc_add h42 h86 c87 fun H88 g89 h90 => ?_
      have h83 := Ls.g1 g89 ne26 h83
      have g0 := Gr.loc g0 nw27 g89
      have gl44 := Gr.loc gl44 n25 g89
      exact hm _ ⟨gl44, h90, h83⟩
    obtain ⟨g91, h92, h93⟩ := hr40
    have g0 := Gr.many g0 (all1 ((.inr nw8)) all0) g91
    refine rd_gn ?_
    refine rd_nx ?_
    obtain ⟨vs94, hl95, hp96⟩ := id (Ls.q h92)
    refine rd_seq (rd_asg (rd_lc (rd_il (rd_var rfl ⟨_, rfl, ⟨_, hl95⟩, fun p97 n98 => ?_⟩))))
    have ne99 : p4 ≠ p97 := Ls.ne h93 n98
    have ne100 : p24 ≠ p97 := Ls.ne h92 n98
    have nw101 := Gr.free g0 n98
    refine lc_lst (r := (rZ rI)) (H1 := H39) (fun (s : List (List Int)) (H : Hp) => Gr [] H39 H ∧ Ls (rT K rI) H p97 s) hp96 (wp_bind hm) ⟨Gr.new n98, ⟨[], upd_same, .nil⟩⟩ (fun _ _ hr => by obtain ⟨g, _⟩ := hr; exact g.lst nin0 hl95) (fun x106 v107 s105 H109 N110 hx108 hr111 hm => ?_) (fun s112 H113 hr114 hm => ?_)
    · unfold m_law_b3 at hm
      obtain ⟨g115, h116⟩ := hr111
      have h93 := Ls.gA g115 nin0 h93
      have h92 := Ls.gA g115 nin0 h92
      have g0 := Gr.of0' g0 g115
      have gl117 := g115
      have hx108 := Imm.mono g115 hx108
      refine rd_gn ⟨rfl, rd_yes (iteT (rd_call (rd_cons (rd_var rfl (rd_cons (rd_var rfl (rd_nil ⟨_, _, _, rfl, hx108, wp_imp (wp_bind hm) (fun t118 hm v121 H119 g120 h122 => ?_) (fun _ e => e)⟩)))))))⟩
      have h93 := Ls.g0 g120 h93
      have h92 := Ls.g0 g120 h92
      have hx108 := Imm.mono g120 hx108
      have h116 := Ls.g0 g120 h116
      have g0 := g0.of0' g120
      have gl117 := gl117.of0' g120
      obtain ⟨c123, hm⟩ := wp_grd hm
      refine lc_add h116 h122 c123 fun H124 g125 h126 => ?_
      have h93 := Ls.g1 g125 ne99 h93
      have h92 := Ls.g1 g125 ne100 h92
      have hx108 := Imm.mono g125 hx108
      have g0 := Gr.loc g0 nw101 g125
      have gl117 := Gr.loc gl117 n98 g125
      exact hm _ ⟨gl117, h126⟩
    obtain ⟨g127, h128⟩ := hr114
    have h93 := Ls.gA g127 nin0 h93
    have h92 := Ls.gA g127 nin0 h92
    have g0 := Gr.of0' g0 g127
    refine rd_glE (un3_L (Ls.q h128) (wp_bind hm) fun t129 x130 x131 x132 h133 h134 h135 hm => ?_) rfl
    refine rd_gc (rd_gn (rd_gc (rd_gn (rd_gc (rd_gn (rd_g0 ?_))))))
    refine rd_nx ?_
    refine rd_seq (rd_if ((ev_or (fun Q hm => by
        have gb136 := Gr.refl (A := []) H113
        refine rd_T (rd_op (rd_lst (rd_cons (rd_var rfl (rd_cons (rd_var rfl (rd_cons (rd_var rfl (rd_nil (mk_L (r := (rT K rI)) (xs := [t129.1, t129.2.1, t129.2.2]) (.cons h133 (.cons h134 (.cons h135 .nil))) (by show 3 ≤ sizeLine; decide) fun p137 H138 n139 g140 h141 => ?_))))))))))
        have ne142 : p4 ≠ p137 := Ls.ne h93 n139
        have ne143 : p24 ≠ p137 := Ls.ne h92 n139
        have nw144 := Gr.free g0 n139
        have nw145 := Gr.free gb136 n139
        have h93 := Ls.g0 g140 h93
        have h92 := Ls.g0 g140 h92
        have h133 := Imm.mono g140 h133
        have h134 := Imm.mono g140 h134
        have h135 := Imm.mono g140 h135
        have g0 := g0.of0' g140
        have gb136 := gb136.of0' g140
        obtain ⟨vs146, hl147, hp148⟩ := id (Ls.q h92)
        refine rd_lc (rd_il (rd_var rfl ⟨_, rfl, ⟨_, hl147⟩, fun p149 n150 => ?_⟩))
        have ne151 : p4 ≠ p149 := Ls.ne h93 n150
        have ne152 : p24 ≠ p149 := Ls.ne h92 n150
        have ne153 : p137 ≠ p149 := Ls.ne h141 n150
        have nw154 := Gr.free g0 n150
        have nw155 := Gr.free gb136 n150
        refine lc_lst (r := (rZ rI)) (H1 := H138) (fun (s : List (List Int)) (H : Hp) => Gr [] H138 H ∧ Ls (rT K rI) H p149 s) hp148 (wp_bind hm) ⟨Gr.new n150, ⟨[], upd_same, .nil⟩⟩ (fun _ _ hr => by obtain ⟨g, _⟩ := hr; exact g.lst nin0 hl147) (fun x160 v161 s159 H163 N164 hx162 hr165 hm => ?_) (fun s166 H167 hr168 hm => ?_)
        · unfold m_law_b4 at hm
          obtain ⟨g169, h170⟩ := hr165
          have h93 := Ls.gA g169 nin0 h93
          have h92 := Ls.gA g169 nin0 h92
          have h133 := Imm.mono g169 h133
          have h134 := Imm.mono g169 h134
          have h135 := Imm.mono g169 h135
          have h141 := Ls.gA g169 nin0 h141
          have g0 := Gr.of0' g0 g169
          have gb136 := Gr.of0' gb136 g169
          have gl171 := g169
          have hx162 := Imm.mono g169 hx162
          refine rd_gn ⟨rfl, rd_yes (iteT (rd_call (rd_cons (rd_var rfl (rd_cons (rd_var rfl (rd_nil ⟨_, _, _, rfl, hx162, wp_imp (wp_bind hm) (fun t172 hm v175 H173 g174 h176 => ?_) (fun _ e => e)⟩)))))))⟩
          have h93 := Ls.g0 g174 h93
          have h92 := Ls.g0 g174 h92
          have h133 := Imm.mono g174 h133
          have h134 := Imm.mono g174 h134
          have h135 := Imm.mono g174 h135
          have hx162 := Imm.mono g174 hx162
          have h141 := Ls.g0 g174 h141
          have h170 := Ls.g0 g174 h170
          have g0 := g0.of0' g174
          have gb136 := gb136.of0' g174
          have gl171 := gl171.of0' g174
          obtain ⟨c177, hm⟩ := wp_grd hm
          refine lc_add h170 h176 c177 fun H178 g179 h180 => ?_
          have h93 := Ls.g1 g179 ne151 h93
          have h92 := Ls.g1 g179 ne152 h92
          have h133 := Imm.mono g179 h133
          have h134 := Imm.mono g179 h134
          have h135 := Imm.mono g179 h135
          have hx162 := Imm.mono g179 hx162
          have h141 := Ls.g1 g179 ne153 h141
          have g0 := Gr.loc g0 nw154 g179
          have gb136 := Gr.loc gb136 nw155 g179
          have gl171 := Gr.loc gl171 n150 g179
          exact hm _ ⟨gl171, h180⟩
        obtain ⟨g181, h182⟩ := hr168
        have h93 := Ls.gA g181 nin0 h93
        have h92 := Ls.gA g181 nin0 h92
        have h133 := Imm.mono g181 h133
        have h134 := Imm.mono g181 h134
        have h135 := Imm.mono g181 h135
        have h141 := Ls.gA g181 nin0 h141
        have g0 := Gr.of0' g0 g181
        have gb136 := Gr.of0' gb136 g181
        exact ne_D (DRep.lst (DRep.tup (DRep.int K))) (rL_of (Ls.q h141)) (rL_of (Ls.q h182)) (rd_kB (hm _ gb136))) (fun H183 g184 Q hm => by
        have h93 := Ls.g0 g184 h93
        have h92 := Ls.g0 g184 h92
        have h133 := Imm.mono g184 h133
        have h134 := Imm.mono g184 h134
        have h135 := Imm.mono g184 h135
        have g0 := g0.of0' g184
        have gb185 := Gr.refl (A := []) H183
        refine rd_T (rd_op (rd_call (rd_cons (rd_cb (rd_cons (rd_op (rd_var rfl (rd_c (ix_L (Ls.q h92) (wp_bind hm) fun t186 v187 h188 hm => ?_)))))))))
        refine rd_nil (tup_of_Z (K := K) h188 fun v189 H190 g191 h192 => ?_)
        have h93 := Ls.g0 g191 h93
        have h92 := Ls.g0 g191 h92
        have h133 := Imm.mono g191 h133
        have h134 := Imm.mono g191 h134
        have h135 := Imm.mono g191 h135
        have g0 := g0.of0' g191
        have gb185 := gb185.of0' g191
        refine rd_cons (rd_var rfl (rd_nil ⟨_, _, _, rfl, h192, wp_imp (wp_bind hm) (fun t193 hm v196 H194 g195 h197 => ?_) (fun _ e => e)⟩))
        have h93 := Ls.g0 g195 h93
        have h92 := Ls.g0 g195 h92
        have h133 := Imm.mono g195 h133
        have h134 := Imm.mono g195 h134
        have h135 := Imm.mono g195 h135
        have g0 := g0.of0' g195
        have gb185 := gb185.of0' g195
        exact rd_var rfl (ne_D (DRep.tup (DRep.int K)) h197 h133 (rd_kB (hm _ gb185))))) _ (wp_imp (wp_bind hm) (fun t198 hm H199 g200 => ?_) (fun _ e => e))))
    have h93 := Ls.g0 g200 h93
    have h92 := Ls.g0 g200 h92
    have h133 := Imm.mono g200 h133
    have h134 := Imm.mono g200 h134
    have h135 := Imm.mono g200 h135
    have g0 := g0.of0' g200
    refine iteB (fun e201 => ?_) (fun e201 => ?_)
    · have hm := ifT e201 (wp_iteB hm)
      exact rd_ret (rd_c (hm _ g0))
    have hm := ifF e201 (wp_iteB hm)
    refine rd_next (rd_nx ?_)
    refine rd_seq (rd_asg (rd_cb (rd_cons (rd_cb (rd_cons (rd_var rfl (rd_nil (len_T h133 (rd_cons (rd_cb (rd_cons (rd_var rfl (rd_nil (len_T h134 (rd_nil (rd_max (rd_gn ?_)))))))))))))))))
    refine rd_nx ?_
    refine rd_seq (rd_asg (rd_lc (rd_it (rd_tup (rd_cons (rd_var rfl (rd_cons (rd_var rfl (rd_nil (mk_P (K := K) (r := (rT K rI)) (s := (rT K rI)) h133 h134 fun v202 H203 g204 h205 => ?_))))))))))
    have h93 := Ls.g0 g204 h93
    have h133 := Imm.mono g204 h133
    have h134 := Imm.mono g204 h134
    have h135 := Imm.mono g204 h135
    have g0 := g0.of0' g204
    have h206 := (rP2_T h205)
    obtain ⟨a210, ea211, vs207, hl208, hp209⟩ := id h206
    refine ⟨_, ea211, ⟨_, hl208⟩, fun p212 n213 => ?_⟩
    have ne214 : p4 ≠ p212 := Ls.ne h93 n213
    have nw215 := Gr.free g0 n213
    refine lc_tup (r := (rT K rI)) (H1 := H203) (fun (s : List (List Int)) (H : Hp) => Gr [] H203 H ∧ Ls (rZ rI) H p212 s) hp209 (wp_bind hm) ⟨Gr.new n213, ⟨[], upd_same, .nil⟩⟩ (fun _ _ hr => by obtain ⟨g, _⟩ := hr; exact g.tup hl208) (fun x220 v221 s219 H223 N224 hx222 hr225 hm => ?_) (fun s226 H227 hr228 hm => ?_)
    · unfold m_law_b6 at hm
      obtain ⟨g229, h230⟩ := hr225
      have h93 := Ls.gA g229 nin0 h93
      have h133 := Imm.mono g229 h133
      have h134 := Imm.mono g229 h134
      have h135 := Imm.mono g229 h135
      have g0 := Gr.of0' g0 g229
      have gl231 := g229
      have hx222 := Imm.mono g229 hx222
      refine rd_gn ⟨rfl, rd_yes (iteT (rd_frzE (rd_op (rd_cb (rd_cons (rd_var rfl (rd_nil (lst_of_T hx222 fun p232 H233 n234 g235 h236 => ?_))))))))⟩
      have ne237 : p4 ≠ p232 := Ls.ne h93 n234
      have ne238 : p212 ≠ p232 := Ls.ne h230 n234
      have nw239 := Gr.free g0 n234
      have nw240 := Gr.free gl231 n234
      have h93 := Ls.g0 g235 h93
      have h133 := Imm.mono g235 h133
      have h134 := Imm.mono g235 h134
      have h135 := Imm.mono g235 h135
      have hx222 := Imm.mono g235 hx222
      have h230 := Ls.g0 g235 h230
      have g0 := g0.of0' g235
      have gl231 := gl231.of0' g235
      obtain ⟨c241, hm⟩ := wp_grd hm
      refine rd_lc (rd_r1 (rd_cons (rd_op (rd_var rfl (rd_cb (rd_cons (rd_var rfl (rd_nil (len_T hx222 (rd_rI0 (rd_nil ⟨_, rfl, c241.1, c241.2, fun p242 n243 => ?_⟩)))))))))))
      have ne244 : p4 ≠ p242 := Ls.ne h93 n243
      have ne245 : p212 ≠ p242 := Ls.ne h230 n243
      have ne246 : p232 ≠ p242 := Ls.ne h236 n243
      have nw247 := Gr.free g0 n243
      have nw248 := Gr.free gl231 n243
      refine lc_rng (lo := 0) (n := (((pmax ((t129.1).length : Int) ((t129.2.1).length : Int)) - ((x220).length : Int))).toNat) (fun (s : List Int) (H : Hp) => Gr [] H233 H ∧ Ls rI H p242 s) (wp_bind hm) ⟨Gr.new n243, ⟨[], upd_same, .nil⟩⟩ (fun x253 s252 H256 N257 hr258 hm => ?_) (fun s259 H260 hr261 hm => ?_)
      · unfold m_law_b5 at hm
        obtain ⟨g262, h263⟩ := hr258
        have h93 := Ls.gA g262 nin0 h93
        have h133 := Imm.mono g262 h133
        have h134 := Imm.mono g262 h134
        have h135 := Imm.mono g262 h135
        have hx222 := Imm.mono g262 hx222
        have h230 := Ls.gA g262 nin0 h230
        have h236 := Ls.gA g262 nin0 h236
        have g0 := Gr.of0' g0 g262
        have gl231 := Gr.of0' gl231 g262
        have gl264 := g262
        obtain ⟨c265, hm⟩ := wp_grd hm
        refine rd_gn ⟨rfl, rd_yes (iteT (rd_c (lc_add h263 rfl c265 fun H266 g267 h268 => ?_)))⟩
        have h93 := Ls.g1 g267 ne244 h93
        have h133 := Imm.mono g267 h133
        have h134 := Imm.mono g267 h134
        have h135 := Imm.mono g267 h135
        have hx222 := Imm.mono g267 hx222
        have h230 := Ls.g1 g267 ne245 h230
        have h236 := Ls.g1 g267 ne246 h236
        have g0 := Gr.loc g0 nw247 g267
        have gl231 := Gr.loc gl231 nw248 g267
        have gl264 := Gr.loc gl264 n243 g267
        exact hm _ ⟨gl264, h268⟩
      obtain ⟨g269, h270⟩ := hr261
      have h93 := Ls.gA g269 nin0 h93
      have h133 := Imm.mono g269 h133
      have h134 := Imm.mono g269 h134
      have h135 := Imm.mono g269 h135
      have hx222 := Imm.mono g269 hx222
      have h230 := Ls.gA g269 nin0 h230
      have h236 := Ls.gA g269 nin0 h236
      have g0 := Gr.of0' g0 g269
      have gl231 := Gr.of0' gl231 g269
      obtain ⟨c271, hm⟩ := wp_grd hm
      refine cat_L h236 h270 c271 fun p272 H273 n274 g275 h276 => ?_
      have ne277 : p4 ≠ p272 := Ls.ne h93 n274
      have ne278 : p212 ≠ p272 := Ls.ne h230 n274
      have nw279 := Gr.free g0 n274
      have nw280 := Gr.free gl231 n274
      have h93 := Ls.g0 g275 h93
      have h133 := Imm.mono g275 h133
      have h134 := Imm.mono g275 h134
      have h135 := Imm.mono g275 h135
      have hx222 := Imm.mono g275 hx222
      have h230 := Ls.g0 g275 h230
      have g0 := g0.of0' g275
      have gl231 := gl231.of0' g275
      refine fz_L h276 fun H281 f282 h283 => ?_
      have h93 := Ls.fz f282 ne277 h93
      have h133 := Imm.im f282.im h133
      have h134 := Imm.im f282.im h134
      have h135 := Imm.im f282.im h135
      have hx222 := Imm.im f282.im hx222
      have h230 := Ls.fz f282 ne278 h230
      have g0 := Gr.fz g0 nw279 f282
      have gl231 := Gr.fz gl231 nw280 f282
      obtain ⟨c284, hm⟩ := wp_grd hm
      refine lc_add h230 h283 c284 fun H285 g286 h287 => ?_
      have h93 := Ls.g1 g286 ne214 h93
      have h133 := Imm.mono g286 h133
      have h134 := Imm.mono g286 h134
      have h135 := Imm.mono g286 h135
      have hx222 := Imm.mono g286 hx222
      have g0 := Gr.loc g0 nw215 g286
      have gl231 := Gr.loc gl231 n213 g286
      exact hm _ ⟨gl231, h287⟩
    obtain ⟨g288, h289⟩ := hr228
    have h93 := Ls.gA g288 nin0 h93
    have h133 := Imm.mono g288 h133
    have h134 := Imm.mono g288 h134
    have h135 := Imm.mono g288 h135
    have g0 := Gr.of0' g0 g288
    refine rd_gn ?_
    refine rd_nx ?_
    refine rd_seq (rd_if (rd_T (rd_op (rd_call (rd_cons (rd_var rfl (rd_cons (rd_var rfl (rd_cons (rd_var rfl (rd_nil ⟨_, _, _, _, _, rfl, h133, h134, wp_imp (wp_bind hm) (fun t290 hm v293 H291 g292 h294 => ?_) (fun _ e => e)⟩)))))))))))
    have h93 := Ls.g0 g292 h93
    have h133 := Imm.mono g292 h133
    have h134 := Imm.mono g292 h134
    have h135 := Imm.mono g292 h135
    have h289 := Ls.g0 g292 h289
    have g0 := g0.of0' g292
    refine rd_call (rd_cons (rd_lc (rd_izip (rd_cons (rd_op (rd_var rfl (rd_c (ix_L (Ls.q h289) (wp_bind hm) fun t295 v296 h297 hm => ?_))))))))
    refine rd_cons (rd_op (rd_var rfl (rd_c (ix_L (Ls.q h289) (wp_bind hm) fun t298 v299 h300 hm => ?_))))
    obtain ⟨a301, ea305, vs302, hl303, hp304⟩ := rZ_q (K := K) h297
    obtain ⟨a306, ea310, vs307, hl308, hp309⟩ := rZ_q (K := K) h300
    refine rd_nil (zip_l ea305 ea310 hl303 hl308 (fun p311 n312 => ?_))
    have ne313 : p4 ≠ p311 := Ls.ne h93 n312
    have ne314 : p212 ≠ p311 := Ls.ne h289 n312
    have nw315 := Gr.free g0 n312
    refine lc_R (r := (rP K rI rI)) (H0 := H291) (H1 := H291) (wk_zip hp304 hp309) (fun (s : List Int) (H : Hp) => Gr [] H291 H ∧ Ls rI H p311 s) (wp_bind hm) ⟨Gr.new n312, ⟨[], upd_same, .nil⟩⟩ (fun _ _ hr => by obtain ⟨g, _⟩ := hr; exact ⟨⟨g.lst nin0 hl303, g.lst nin0 hl308⟩, _, g⟩) (fun x320 v321 s319 H323 H329 N324 hr325 hg330 hx322 hm => ?_) (fun s326 H327 hr328 hm => ?_)
    · unfold m_law_b7 at hm
      obtain ⟨g331, h332⟩ := hr325
      have h93 := Ls.gA g331 nin0 h93
      have h133 := Imm.mono g331 h133
      have h134 := Imm.mono g331 h134
      have h135 := Imm.mono g331 h135
      have h289 := Ls.gA g331 nin0 h289
      have h294 := Imm.mono g331 h294
      have g0 := Gr.of0' g0 g331
      have gl333 := g331
      have h93 := Ls.g0 hg330 h93
      have h133 := Imm.mono hg330 h133
      have h134 := Imm.mono hg330 h134
      have h135 := Imm.mono hg330 h135
      have h289 := Ls.g0 hg330 h289
      have h294 := Imm.mono hg330 h294
      have h332 := Ls.g0 hg330 h332
      have g0 := g0.of0' hg330
      have gl333 := gl333.of0' hg330
      obtain ⟨a334, x335, x336, ea340, h337, h338, h339⟩ := id hx322
      obtain rfl := h338
      obtain rfl := h339
      obtain ⟨c341, hm⟩ := wp_grd hm
      refine rd_gtE ea340 h337 rfl (rd_gc (rd_gn (rd_gc (rd_gn (rd_g0 ⟨rfl, rd_yes (iteT (rd_op (rd_var rfl (rd_var rfl (rd_rI0 (lc_add h332 rfl c341 fun H342 g343 h344 => ?_))))))⟩)))))
      have h93 := Ls.g1 g343 ne313 h93
      have h133 := Imm.mono g343 h133
      have h134 := Imm.mono g343 h134
      have h135 := Imm.mono g343 h135
      have h289 := Ls.g1 g343 ne314 h289
      have h294 := Imm.mono g343 h294
      have g0 := Gr.loc g0 nw315 g343
      have gl333 := Gr.loc gl333 n312 g343
      exact hm _ ⟨gl333, h344⟩
    obtain ⟨g345, h346⟩ := hr328
    have h93 := Ls.gA g345 nin0 h93
    have h133 := Imm.mono g345 h133
    have h134 := Imm.mono g345 h134
    have h135 := Imm.mono g345 h135
    have h289 := Ls.gA g345 nin0 h289
    have h294 := Imm.mono g345 h294
    have g0 := Gr.of0' g0 g345
    refine rd_cons (rd_var rfl (rd_nil ⟨_, _, _, rfl, h346, wp_imp (wp_bind hm) (fun t347 hm v350 H348 g349 h351 => ?_) (fun _ e => e)⟩))
    have h93 := Ls.g0 g349 h93
    have h133 := Imm.mono g349 h133
    have h134 := Imm.mono g349 h134
    have h135 := Imm.mono g349 h135
    have h289 := Ls.g0 g349 h289
    have h294 := Imm.mono g349 h294
    have g0 := g0.of0' g349
    refine ne_D (DRep.tup (DRep.int K)) h294 h351 (rd_kB ?_)
    refine iteB (fun e352 => ?_) (fun e352 => ?_)
    · have hm := ifT e352 (wp_iteB hm)
      exact rd_ret (rd_c (hm _ g0))
    have hm := ifF e352 (wp_iteB hm)
    refine rd_next (rd_nx ?_)
    refine rd_seq (rd_if ((ev_or (fun Q hm => by
        have gb353 := Gr.refl (A := []) H348
        refine rd_T (rd_op (rd_call (rd_cons (rd_var rfl (rd_cons (rd_var rfl (rd_cons (rd_var rfl (rd_nil ⟨_, _, _, _, _, rfl, h133, h134, wp_imp (wp_bind hm) (fun t354 hm v357 H355 g356 h358 => ?_) (fun _ e => e)⟩)))))))))
        have h93 := Ls.g0 g356 h93
        have h133 := Imm.mono g356 h133
        have h134 := Imm.mono g356 h134
        have h135 := Imm.mono g356 h135
        have h289 := Ls.g0 g356 h289
        have g0 := g0.of0' g356
        have gb353 := gb353.of0' g356
        refine rd_call (rd_cons (rd_lc (rd_izip (rd_cons (rd_op (rd_var rfl (rd_c (ix_L (Ls.q h289) (wp_bind hm) fun t359 v360 h361 hm => ?_))))))))
        refine rd_cons (rd_op (rd_var rfl (rd_c (ix_L (Ls.q h289) (wp_bind hm) fun t362 v363 h364 hm => ?_))))
        obtain ⟨a365, ea369, vs366, hl367, hp368⟩ := rZ_q (K := K) h361
        obtain ⟨a370, ea374, vs371, hl372, hp373⟩ := rZ_q (K := K) h364
        refine rd_nil (zip_l ea369 ea374 hl367 hl372 (fun p375 n376 => ?_))
        have ne377 : p4 ≠ p375 := Ls.ne h93 n376
        have ne378 : p212 ≠ p375 := Ls.ne h289 n376
        have nw379 := Gr.free g0 n376
        have nw380 := Gr.free gb353 n376
        refine lc_R (r := (rP K rI rI)) (H0 := H355) (H1 := H355) (wk_zip hp368 hp373) (fun (s : List Int) (H : Hp) => Gr [] H355 H ∧ Ls rI H p375 s) (wp_bind hm) ⟨Gr.new n376, ⟨[], upd_same, .nil⟩⟩ (fun _ _ hr => by obtain ⟨g, _⟩ := hr; exact ⟨⟨g.lst nin0 hl367, g.lst nin0 hl372⟩, _, g⟩) (fun x385 v386 s384 H388 H394 N389 hr390 hg395 hx387 hm => ?_) (fun s391 H392 hr393 hm => ?_)
        · unfold m_law_b8 at hm
          obtain ⟨g396, h397⟩ := hr390
          have h93 := Ls.gA g396 nin0 h93
          have h133 := Imm.mono g396 h133
          have h134 := Imm.mono g396 h134
          have h135 := Imm.mono g396 h135
          have h289 := Ls.gA g396 nin0 h289
          have h358 := Imm.mono g396 h358
          have g0 := Gr.of0' g0 g396
          have gb353 := Gr.of0' gb353 g396
          have gl398 := g396
          have h93 := Ls.g0 hg395 h93
          have h133 := Imm.mono hg395 h133
          have h134 := Imm.mono hg395 h134
          have h135 := Imm.mono hg395 h135
          have h289 := Ls.g0 hg395 h289
          have h358 := Imm.mono hg395 h358
          have h397 := Ls.g0 hg395 h397
          have g0 := g0.of0' hg395
          have gb353 := gb353.of0' hg395
          have gl398 := gl398.of0' hg395
          obtain ⟨a399, x400, x401, ea405, h402, h403, h404⟩ := id hx387
          obtain rfl := h403
          obtain rfl := h404
          obtain ⟨c406, hm⟩ := wp_grd hm
          refine rd_gtE ea405 h402 rfl (rd_gc (rd_gn (rd_gc (rd_gn (rd_g0 ⟨rfl, rd_yes (iteT (rd_op (rd_var rfl (rd_var rfl (rd_rI0 (lc_add h397 rfl c406 fun H407 g408 h409 => ?_))))))⟩)))))
          have h93 := Ls.g1 g408 ne377 h93
          have h133 := Imm.mono g408 h133
          have h134 := Imm.mono g408 h134
          have h135 := Imm.mono g408 h135
          have h289 := Ls.g1 g408 ne378 h289
          have h358 := Imm.mono g408 h358
          have g0 := Gr.loc g0 nw379 g408
          have gb353 := Gr.loc gb353 nw380 g408
          have gl398 := Gr.loc gl398 n376 g408
          exact hm _ ⟨gl398, h409⟩
        obtain ⟨g410, h411⟩ := hr393
        have h93 := Ls.gA g410 nin0 h93
        have h133 := Imm.mono g410 h133
        have h134 := Imm.mono g410 h134
        have h135 := Imm.mono g410 h135
        have h289 := Ls.gA g410 nin0 h289
        have h358 := Imm.mono g410 h358
        have g0 := Gr.of0' g0 g410
        have gb353 := Gr.of0' gb353 g410
        refine rd_cons (rd_var rfl (rd_nil ⟨_, _, _, rfl, h411, wp_imp (wp_bind hm) (fun t412 hm v415 H413 g414 h416 => ?_) (fun _ e => e)⟩))
        have h93 := Ls.g0 g414 h93
        have h133 := Imm.mono g414 h133
        have h134 := Imm.mono g414 h134
        have h135 := Imm.mono g414 h135
        have h289 := Ls.g0 g414 h289
        have h358 := Imm.mono g414 h358
        have g0 := g0.of0' g414
        have gb353 := gb353.of0' g414
        exact ne_D (DRep.tup (DRep.int K)) h358 h416 (rd_kB (hm _ gb353))) (fun H417 g418 Q hm => by
        have h93 := Ls.g0 g418 h93
        have h133 := Imm.mono g418 h133
        have h134 := Imm.mono g418 h134
        have h135 := Imm.mono g418 h135
        have h289 := Ls.g0 g418 h289
        have g0 := g0.of0' g418
        have gb419 := Gr.refl (A := []) H417
        refine rd_T (rd_op (rd_call (rd_cons (rd_var rfl (rd_cons (rd_var rfl (rd_cons (rd_var rfl (rd_nil ⟨_, _, _, _, _, rfl, h133, h134, wp_imp (wp_bind hm) (fun t420 hm v423 H421 g422 h424 => ?_) (fun _ e => e)⟩)))))))))
        have h93 := Ls.g0 g422 h93
        have h133 := Imm.mono g422 h133
        have h134 := Imm.mono g422 h134
        have h135 := Imm.mono g422 h135
        have h289 := Ls.g0 g422 h289
        have g0 := g0.of0' g422
        have gb419 := gb419.of0' g422
        refine rd_call (rd_cons (rd_var rfl (rd_cons (rd_var rfl (rd_cons (rd_var rfl (rd_nil ⟨_, _, _, _, _, rfl, h133, h134, wp_imp (wp_bind hm) (fun t425 hm v428 H426 g427 h429 => ?_) (fun _ e => e)⟩)))))))
        have h93 := Ls.g0 g427 h93
        have h133 := Imm.mono g427 h133
        have h134 := Imm.mono g427 h134
        have h135 := Imm.mono g427 h135
        have h289 := Ls.g0 g427 h289
        have h424 := Imm.mono g427 h424
        have g0 := g0.of0' g427
        have gb419 := gb419.of0' g427
        exact ne_D (DRep.tup (DRep.int K)) h424 h429 (rd_kB (hm _ gb419)))) _ (wp_imp (wp_bind hm) (fun t430 hm H431 g432 => ?_) (fun _ e => e))))
    have h93 := Ls.g0 g432 h93
    have h133 := Imm.mono g432 h133
    have h134 := Imm.mono g432 h134
    have h135 := Imm.mono g432 h135
    have h289 := Ls.g0 g432 h289
    have g0 := g0.of0' g432
    refine iteB (fun e433 => ?_) (fun e433 => ?_)
    · have hm := ifT e433 (wp_iteB hm)
      exact rd_ret (rd_c (hm _ g0))
    have hm := ifF e433 (wp_iteB hm)
    refine rd_next (rd_nx ?_)
    refine rd_seq (rd_if (rd_not (rd_B (rd_call (rd_cons (rd_var rfl (rd_cons (rd_var rfl (rd_nil ⟨_, _, _, rfl, h133, wp_imp (wp_bind hm) (fun t434 hm H435 g436 => ?_) (fun _ e => e)⟩)))))))))
    have h93 := Ls.g0 g436 h93
    have h133 := Imm.mono g436 h133
    have h134 := Imm.mono g436 h134
    have h135 := Imm.mono g436 h135
    have g0 := g0.of0' g436
    refine rd_kB ?_
    refine iteB (fun e437 => ?_) (fun e437 => ?_)
    · have hm := ifT e437 (wp_iteB hm)
      exact rd_ret (rd_c (hm _ g0))
    have hm := ifF e437 (wp_iteB hm)
    refine rd_next (rd_nx ?_)
    refine rd_seq (rd_asg (rd_call (rd_cons (rd_call (rd_cons (rd_var rfl (rd_cons (rd_var rfl (rd_cons (rd_var rfl (rd_nil ⟨_, _, _, _, _, rfl, h133, h135, wp_imp (wp_bind hm) (fun t438 hm v441 H439 g440 h442 => ?_) (fun _ e => e)⟩)))))))))))
    have h93 := Ls.g0 g440 h93
    have h133 := Imm.mono g440 h133
    have h134 := Imm.mono g440 h134
    have h135 := Imm.mono g440 h135
    have g0 := g0.of0' g440
    refine rd_cons (rd_call (rd_cons (rd_var rfl (rd_cons (rd_var rfl (rd_cons (rd_var rfl (rd_nil ⟨_, _, _, _, _, rfl, h134, h135, wp_imp (wp_bind hm) (fun t443 hm v446 H444 g445 h447 => ?_) (fun _ e => e)⟩))))))))
    have h93 := Ls.g0 g445 h93
    have h133 := Imm.mono g445 h133
    have h134 := Imm.mono g445 h134
    have h135 := Imm.mono g445 h135
    have h442 := Imm.mono g445 h442
    have g0 := g0.of0' g445
    refine rd_cons (rd_var rfl (rd_nil ⟨_, _, _, _, _, rfl, h442, h447, wp_imp (wp_bind hm) (fun t448 hm v451 H449 g450 h452 => ?_) (fun _ e => False.elim e)⟩))
    have h93 := Ls.g0 g450 h93
    have h133 := Imm.mono g450 h133
    have h134 := Imm.mono g450 h134
    have h135 := Imm.mono g450 h135
    have g0 := g0.of0' g450
    refine rd_gn ?_
    refine rd_nx ?_
    refine rd_seq (rd_if (rd_T (rd_op (rd_cb (rd_cons (rd_var rfl (rd_nil (len_T h452 (rd_c (rd_rI0 (rd_kB ?_)))))))))))
    refine iteB (fun e453 => ?_) (fun e453 => ?_)
    · have hm := ifT e453 (wp_iteB hm)
      refine rd_ret ((ev_orV (fun Q hm => by
          have gb454 := Gr.refl (A := []) H449
          refine (ev_andV (fun Q hm => by
              have gb455 := Gr.refl (A := []) H449
              exact rd_op (rd_cb (rd_cons (rd_var rfl (rd_nil (len_T h133 (rd_c (rd_rI0 (hm _ _ gb455 rfl))))))))) (fun H456 g457 Q hm => by
              have h93 := Ls.g0 g457 h93
              have h133 := Imm.mono g457 h133
              have h134 := Imm.mono g457 h134
              have h135 := Imm.mono g457 h135
              have h452 := Imm.mono g457 h452
              have g0 := g0.of0' g457
              have gb454 := gb454.of0' g457
              have gb458 := Gr.refl (A := []) H456
              exact rd_op (rd_cb (rd_cons (rd_var rfl (rd_nil (len_T h134 (rd_c (rd_rI0 (hm _ _ gb458 rfl)))))))))) _ (wp_imp (wp_bind hm) (fun t459 hm v462 H460 g461 h463 => ?_) (fun _ e => e))
          obtain rfl := h463
          have h93 := Ls.g0 g461 h93
          have h133 := Imm.mono g461 h133
          have h134 := Imm.mono g461 h134
          have h135 := Imm.mono g461 h135
          have h452 := Imm.mono g461 h452
          have g0 := g0.of0' g461
          have gb454 := gb454.of0' g461
          exact hm _ _ gb454 rfl) (fun H464 g465 Q hm => by
          have h93 := Ls.g0 g465 h93
          have h133 := Imm.mono g465 h133
          have h134 := Imm.mono g465 h134
          have h135 := Imm.mono g465 h135
          have h452 := Imm.mono g465 h452
          have g0 := g0.of0' g465
          have gb466 := Gr.refl (A := []) H464
          exact rd_op (rd_cb (rd_cons (rd_var rfl (rd_nil (len_T h135 (rd_c (rd_rI0 (hm _ _ gb466 rfl)))))))))) _ (wp_imp (wp_bind hm) (fun t467 hm v470 H468 g469 h471 => ?_) (fun _ e => e)))
      obtain rfl := h471
      have h93 := Ls.g0 g469 h93
      have h133 := Imm.mono g469 h133
      have h134 := Imm.mono g469 h134
      have h135 := Imm.mono g469 h135
      have h452 := Imm.mono g469 h452
      have g0 := g0.of0' g469
      exact hm _ g0
    have hm := ifF e453 (wp_iteB hm)
    refine rd_next (rd_nx ?_)
    refine rd_seq (rd_if ((ev_or3 (fun Q hm => by
        have gb472 := Gr.refl (A := []) H449
        refine rd_T (rd_op (rd_op (rd_var rfl (rd_op (rd_cb (rd_cons (rd_var rfl (rd_nil (len_T h452 (rd_c (rd_rI0 (ix_T h452 (wp_bind hm) fun t473 v474 h475 hm => ?_))))))))))))
        obtain rfl := h475
        exact rd_c (rd_rI0 (rd_kB (hm _ gb472)))) (fun H476 g477 Q hm => by
        have h93 := Ls.g0 g477 h93
        have h133 := Imm.mono g477 h133
        have h134 := Imm.mono g477 h134
        have h135 := Imm.mono g477 h135
        have h452 := Imm.mono g477 h452
        have g0 := g0.of0' g477
        have gb478 := Gr.refl (A := []) H476
        refine rd_T (rd_op (rd_cb (rd_cons (rd_call (rd_cons (rd_call (rd_cons (rd_var rfl (rd_cons (rd_var rfl (rd_cons (rd_var rfl (rd_nil ⟨_, _, _, _, _, rfl, h133, h135, wp_imp (wp_bind hm) (fun t479 hm v482 H480 g481 h483 => ?_) (fun _ e => e)⟩)))))))))))))
        have h93 := Ls.g0 g481 h93
        have h133 := Imm.mono g481 h133
        have h134 := Imm.mono g481 h134
        have h135 := Imm.mono g481 h135
        have h452 := Imm.mono g481 h452
        have g0 := g0.of0' g481
        have gb478 := gb478.of0' g481
        refine rd_cons (rd_var rfl (rd_cons (rd_var rfl (rd_nil ⟨_, _, _, _, _, rfl, h483, h452, wp_imp (wp_bind hm) (fun t484 hm v487 H485 g486 h488 => ?_) (fun _ e => e)⟩))))
        have h93 := Ls.g0 g486 h93
        have h133 := Imm.mono g486 h133
        have h134 := Imm.mono g486 h134
        have h135 := Imm.mono g486 h135
        have h452 := Imm.mono g486 h452
        have g0 := g0.of0' g486
        have gb478 := gb478.of0' g486
        exact rd_nil (len_T h488 (rd_c (rd_rI0 (rd_kB (hm _ gb478)))))) (fun H489 g490 Q hm => by
        have h93 := Ls.g0 g490 h93
        have h133 := Imm.mono g490 h133
        have h134 := Imm.mono g490 h134
        have h135 := Imm.mono g490 h135
        have h452 := Imm.mono g490 h452
        have g0 := g0.of0' g490
        have gb491 := Gr.refl (A := []) H489
        refine rd_T (rd_op (rd_cb (rd_cons (rd_call (rd_cons (rd_call (rd_cons (rd_var rfl (rd_cons (rd_var rfl (rd_cons (rd_var rfl (rd_nil ⟨_, _, _, _, _, rfl, h134, h135, wp_imp (wp_bind hm) (fun t492 hm v495 H493 g494 h496 => ?_) (fun _ e => e)⟩)))))))))))))
        have h93 := Ls.g0 g494 h93
        have h133 := Imm.mono g494 h133
        have h134 := Imm.mono g494 h134
        have h135 := Imm.mono g494 h135
        have h452 := Imm.mono g494 h452
        have g0 := g0.of0' g494
        have gb491 := gb491.of0' g494
        refine rd_cons (rd_var rfl (rd_cons (rd_var rfl (rd_nil ⟨_, _, _, _, _, rfl, h496, h452, wp_imp (wp_bind hm) (fun t497 hm v500 H498 g499 h501 => ?_) (fun _ e => e)⟩))))
        have h93 := Ls.g0 g499 h93
        have h133 := Imm.mono g499 h133
        have h134 := Imm.mono g499 h134
        have h135 := Imm.mono g499 h135
        have h452 := Imm.mono g499 h452
        have g0 := g0.of0' g499
        have gb491 := gb491.of0' g499
        exact rd_nil (len_T h501 (rd_c (rd_rI0 (rd_kB (hm _ gb491))))))) _ (wp_imp (wp_bind hm) (fun t502 hm H503 g504 => ?_) (fun _ e => e))))
    have h93 := Ls.g0 g504 h93
    have h133 := Imm.mono g504 h133
    have h134 := Imm.mono g504 h134
    have h135 := Imm.mono g504 h135
    have h452 := Imm.mono g504 h452
    have g0 := g0.of0' g504
    refine iteB (fun e505 => ?_) (fun e505 => ?_)
    · have hm := ifT e505 (wp_iteB hm)
      exact rd_ret (rd_c (hm _ g0))
    have hm := ifF e505 (wp_iteB hm)
    refine rd_next (rd_nx ?_)
    refine rd_seq (rd_if (rd_T (rd_op (rd_cb (rd_cons (rd_op (rd_call (rd_cons (rd_var rfl (rd_cons (rd_var rfl (rd_cons (rd_var rfl (rd_nil ⟨_, _, _, _, _, rfl, h452, h135, wp_imp (wp_bind hm) (fun t506 hm v509 H507 g508 h510 => ?_) (fun _ e => False.elim e)⟩))))))))))))))
    have h93 := Ls.g0 g508 h93
    have h133 := Imm.mono g508 h133
    have h135 := Imm.mono g508 h135
    have h452 := Imm.mono g508 h452
    have g0 := g0.of0' g508
    refine rd_c (ix_P21 h510 (by rfl) fun v512 h513 => ?_)
    refine rd_nil (len_T h513 (rd_c (rd_rI0 (rd_kB ?_))))
    refine iteB (fun e514 => ?_) (fun e514 => ?_)
    · have hm := ifT e514 (wp_iteB hm)
      exact rd_ret (rd_c (hm _ g0))
    have hm := ifF e514 (wp_iteB hm)
    refine rd_next (rd_nx ?_)
    refine rd_seq (rd_asg (rd_call (rd_cons (rd_var rfl (rd_cons (rd_var rfl (rd_cons (rd_var rfl (rd_nil ⟨_, _, _, _, _, rfl, h133, h135, wp_imp (wp_bind hm) (fun t515 hm v518 H516 g517 h519 => ?_) (fun _ e => False.elim e)⟩)))))))))
    have h93 := Ls.g0 g517 h93
    have h133 := Imm.mono g517 h133
    have h135 := Imm.mono g517 h135
    have g0 := g0.of0' g517
    obtain ⟨a520, x521, x522, ea526, h523, h524, h525⟩ := id h519
    refine rd_gtE ea526 h523 rfl (rd_gc (rd_gn (rd_gc (rd_gn (rd_g0 ?_)))))
    refine rd_nx ?_
    refine rd_seq (rd_if ((ev_or (fun Q hm => by
        have gb527 := Gr.refl (A := []) H516
        exact rd_T (rd_op (rd_cb (rd_cons (rd_var rfl (rd_nil (len_T h525 (rd_cb (rd_cons (rd_var rfl (rd_nil (len_T h135 (rd_rI0 (rd_kB (hm _ gb527))))))))))))))) (fun H528 g529 Q hm => by
        have h93 := Ls.g0 g529 h93
        have h133 := Imm.mono g529 h133
        have h135 := Imm.mono g529 h135
        have h524 := Imm.mono g529 h524
        have h525 := Imm.mono g529 h525
        have g0 := g0.of0' g529
        have gb530 := Gr.refl (A := []) H528
        refine rd_T (rd_op (rd_call (rd_cons (rd_call (rd_cons (rd_var rfl (rd_cons (rd_var rfl (rd_cons (rd_var rfl (rd_nil ⟨_, _, _, _, _, rfl, h524, h135, wp_imp (wp_bind hm) (fun t531 hm v534 H532 g533 h535 => ?_) (fun _ e => e)⟩)))))))))))
        have h93 := Ls.g0 g533 h93
        have h133 := Imm.mono g533 h133
        have h135 := Imm.mono g533 h135
        have h524 := Imm.mono g533 h524
        have h525 := Imm.mono g533 h525
        have g0 := g0.of0' g533
        have gb530 := gb530.of0' g533
        refine rd_cons (rd_var rfl (rd_cons (rd_var rfl (rd_nil ⟨_, _, _, _, _, rfl, h535, h525, wp_imp (wp_bind hm) (fun t536 hm v539 H537 g538 h540 => ?_) (fun _ e => e)⟩))))
        have h93 := Ls.g0 g538 h93
        have h133 := Imm.mono g538 h133
        have h135 := Imm.mono g538 h135
        have h524 := Imm.mono g538 h524
        have h525 := Imm.mono g538 h525
        have g0 := g0.of0' g538
        have gb530 := gb530.of0' g538
        exact rd_var rfl (ne_D (DRep.tup (DRep.int K)) h540 h133 (rd_kB (hm _ gb530))))) _ (wp_imp (wp_bind hm) (fun t541 hm H542 g543 => ?_) (fun _ e => e))))
    have h93 := Ls.g0 g543 h93
    have h133 := Imm.mono g543 h133
    have h135 := Imm.mono g543 h135
    have h524 := Imm.mono g543 h524
    have h525 := Imm.mono g543 h525
    have g0 := g0.of0' g543
    refine iteB (fun e544 => ?_) (fun e544 => ?_)
    · have hm := ifT e544 (wp_iteB hm)
      exact rd_ret (rd_c (hm _ g0))
    have hm := ifF e544 (wp_iteB hm)
    refine rd_next (rd_nx ?_)
    refine rd_seq (rd_if (rd_T (rd_op (rd_cb (rd_cons (rd_var rfl (rd_nil (len_T h135 (rd_c (rd_rI0 (rd_kB ?_)))))))))))
    refine iteB (fun e545 => ?_) (fun e545 => ?_)
    · have hm := ifT e545 (wp_iteB hm)
      exact rd_ret (rd_c (hm _ g0))
    have hm := ifF e545 (wp_iteB hm)
    refine rd_next (rd_nx ?_)
    refine rd_seq (rd_asg (rd_call (rd_cons (rd_var rfl (rd_cons (rd_c (rd_nil ⟨_, _, _, rfl, h93, wp_imp (wp_bind hm) (fun t546 hm H547 g548 h549 => ?_) (fun _ e => e)⟩)))))))
    have h133 := Imm.mono g548 h133
    have h135 := Imm.mono g548 h135
    have g0 := Gr.loc g0 nw8 g548
    refine rd_gn ?_
    refine rd_nx ?_
    refine rd_seq (rd_asg (rd_tup (rd_cons (rd_c (rd_nil (mk_T (K := K) (r := rI) (xs := [(1 : Int)]) (.cons rfl .nil) (by show 1 ≤ sizeLine; decide) fun v550 H551 g552 h553 => ?_))))))
    have h133 := Imm.mono g552 h133
    have h135 := Imm.mono g552 h135
    have g0 := g0.of0' g552
    refine rd_gn ?_
    refine rd_nx ?_
    refine seq_join (t := tFor _ _ _) (wp_bind hm) (fun (s : (List Int)) (σ : L2.St) (H : Hp) => ∃ (o561 : Option V) (w562 : V), σ = [some (.ref p_script), some (.ref p4), some (.int t20), o561, some (.int t546.1), some (.ref p24), some x130, some x131, some x132, some (.int (pmax ((t129.1).length : Int) ((t129.2.1).length : Int))), some (.ref p212), some v451, some x521, some x522, some w562, none, none, none] ∧ Gr [] H551 H ∧ (rT K rI) H s w562) (fun N555 hN556 hm => ?_) (fun s557 σ H558 hr559 hm => ?_)
    · have gl560 := Gr.refl (A := []) H551
      obtain ⟨c567, hm⟩ := wp_grd hm
      have gl568 := Gr.refl (A := []) H551
      refine rd_for (rd_r1 (rd_cons (rd_var rfl (rd_nil ⟨_, rfl, c567.1, c567.2, for_rngR (lo := 0) (n := (t546.1).toNat) (fun (s : (List Int)) (σ : L2.St) (H : Hp) => ∃ (o561 : Option V) (w562 : V), σ = [some (.ref p_script), some (.ref p4), some (.int t20), o561, some (.int t546.1), some (.ref p24), some x130, some x131, some x132, some (.int (pmax ((t129.1).length : Int) ((t129.2.1).length : Int))), some (.ref p212), some v451, some x521, some x522, some w562, none, none, none] ∧ Gr [] H551 H ∧ (rT K rI) H s w562) (by exact wp_N hm (fun s σ' H' hr hz => hN556 s σ' H' hr hz)) ⟨_, _, rfl, gl568, h553⟩ (fun x569 s563 σ H564 N566 hr565 hm => ?_)⟩))))
      unfold m_law_b9 at hm
      obtain ⟨o574, w575, rfl, g573, h576⟩ := hr565
      have h133 := Imm.mono g573 h133
      have h135 := Imm.mono g573 h135
      have g0 := Gr.of0' g0 g573
      have gl568 := Gr.of0' gl568 g573
      refine rd_gn (rd_asg (rd_call (rd_cons (rd_var rfl (rd_cons (rd_var rfl (rd_cons (rd_var rfl (rd_nil ⟨_, _, _, _, _, rfl, h576, h133, wp_imp (wp_bind hm) (fun t577 hm v580 H578 g579 h581 => ?_) (fun _ e => e)⟩)))))))))
      have h133 := Imm.mono g579 h133
      have h135 := Imm.mono g579 h135
      have h576 := Imm.mono g579 h576
      have g0 := g0.of0' g579
      have gl568 := gl568.of0' g579
      refine rd_gn ?_
      exact hm _ _ ⟨_, _, rfl, gl568, h581⟩
    obtain ⟨o583, w584, rfl, g582, h585⟩ := hr559
    have h133 := Imm.mono g582 h133
    have h135 := Imm.mono g582 h135
    have g0 := Gr.of0' g0 g582
    refine rd_ret (rd_op (rd_call (rd_cons (rd_var rfl (rd_cons (rd_var rfl (rd_cons (rd_var rfl (rd_cons (rd_var rfl (rd_nil ⟨_, _, _, _, _, _, rfl, h133, h135, (hTT.gr g0), wp_imp (wp_bind hm) (fun t586 hm v589 H587 g588 h590 => ?_) (fun _ e => False.elim e)⟩)))))))))))
    have h133 := Imm.mono g588 h133
    have h135 := Imm.mono g588 h135
    have h585 := Imm.mono g588 h585
    have g0 := g0.of0' g588
    refine rd_op (rd_call (rd_cons (rd_var rfl (rd_cons (rd_var rfl (rd_cons (rd_var rfl (rd_nil ⟨_, _, _, _, _, rfl, h585, h135, wp_imp (wp_bind hm) (fun t591 hm v594 H592 g593 h595 => ?_) (fun _ e => False.elim e)⟩))))))))
    have h133 := Imm.mono g593 h133
    have h135 := Imm.mono g593 h135
    have h585 := Imm.mono g593 h585
    have h590 := Imm.mono g593 h590
    have g0 := g0.of0' g593
    refine rd_c (ix_P21 h595 (by rfl) fun v597 h598 => ?_)
    exact eq_D (DRep.tup (DRep.int K)) h590 h598 (hm _ g0)

theorem all_mk {l : PySem.W.OpenLaw} {w : World} {K : PySem.W.Frag} {h : Heap} {mg : Str → Option Value} {fa f1 f2 f3 f4 f5 f6 f7 f8 f9 f10 f11 f12 f13 f14 f15 f16 f17 f18 f19 : Addr} (X : K.In h) (G : h.Ns mainGlobals mg) (hfa : mg "law" = some (.ref fa))
    {od1 an1 od2 an2 od3 an3 od4 an4 od5 an5 od6 an6 od7 an7 od8 an8 od9 an9 od10 an10 od11 an11 od12 an12 od13 an13 od14 an14 od15 an15 od16 an16 od17 an17 od18 an18 od19 an19 : Option Addr} {sl1 sl2 sl3 sl4 sl5 sl6 sl7 sl8 sl9 sl10 sl11 sl12 sl13 sl14 sl15 sl16 sl17 sl18 sl19 : Array (Option Value)} {oc1 kV1 dc1 pm1 ct1 cd1 oc2 kV2 dc2 pm2 ct2 cd2 oc3 kV3 dc3 pm3 ct3 cd3 oc4 kV4 dc4 pm4 ct4 cd4 oc5 kV5 dc5 pm5 ct5 cd5 oc6 kV6 dc6 pm6 ct6 cd6 oc7 kV7 dc7 pm7 ct7 cd7 oc8 kV8 dc8 pm8 ct8 cd8 oc9 kV9 dc9 pm9 ct9 cd9 oc10 kV10 dc10 pm10 ct10 cd10 oc11 kV11 dc11 pm11 ct11 cd11 oc12 kV12 dc12 pm12 ct12 cd12 oc13 kV13 dc13 pm13 ct13 cd13 oc14 kV14 dc14 pm14 ct14 cd14 oc15 kV15 dc15 pm15 ct15 cd15 oc16 kV16 dc16 pm16 ct16 cd16 oc17 kV17 dc17 pm17 ct17 cd17 oc18 kV18 dc18 pm18 ct18 oc19 kV19 dc19 pm19 ct19 cd19 : Value}
    {cc18 PT18 : Addr} {tc18 : Value} {td18 : Option Addr} {tv18 : Array Value} {ts18 : Array (Option Value)}
    {c_fault c_zd : Addr}
    (a1 : PySem.W.nsIn K mainGlobals "_law_state" = some (some (.ref f1))) (l1 : K.lookup f1 = some ⟨oc1, od1, .func (PySem.W.fnOf "_law_state" "_law_state" (defArgs s__law_state) (defBody s__law_state) (defScope s__law_state) .none kV1 dc1 pm1 an1 cd1 ct1), sl1⟩) (c1 : PySem.W.codeIn K cd1 "_law_state" = true) (k1 : PySem.W.keepIn K (.ref f1) = true)
    (a2 : PySem.W.nsIn K mainGlobals "_law_take" = some (some (.ref f2))) (l2 : K.lookup f2 = some ⟨oc2, od2, .func (PySem.W.fnOf "_law_take" "_law_take" (defArgs s__law_take) (defBody s__law_take) (defScope s__law_take) .none kV2 dc2 pm2 an2 cd2 ct2), sl2⟩) (c2 : PySem.W.codeIn K cd2 "_law_take" = true) (k2 : PySem.W.keepIn K (.ref f2) = true)
    (a3 : PySem.W.nsIn K mainGlobals "without_end" = some (some (.ref f3))) (l3 : K.lookup f3 = some ⟨oc3, od3, .func (PySem.W.fnOf "without_end" "without_end" (defArgs s_without_end) (defBody s_without_end) (defScope s_without_end) .none kV3 dc3 pm3 an3 cd3 ct3), sl3⟩) (c3 : PySem.W.codeIn K cd3 "without_end" = true) (k3 : PySem.W.keepIn K (.ref f3) = true)
    (a4 : PySem.W.nsIn K mainGlobals "trimmed" = some (some (.ref f4))) (l4 : K.lookup f4 = some ⟨oc4, od4, .func (PySem.W.fnOf "trimmed" "trimmed" (defArgs s_trimmed) (defBody s_trimmed) (defScope s_trimmed) .none kV4 dc4 pm4 an4 cd4 ct4), sl4⟩) (c4 : PySem.W.codeIn K cd4 "trimmed" = true) (k4 : PySem.W.keepIn K (.ref f4) = true)
    (a5 : PySem.W.nsIn K mainGlobals "_law_trim" = some (some (.ref f5))) (l5 : K.lookup f5 = some ⟨oc5, od5, .func (PySem.W.fnOf "_law_trim" "_law_trim" (defArgs s__law_trim) (defBody s__law_trim) (defScope s__law_trim) .none kV5 dc5 pm5 an5 cd5 ct5), sl5⟩) (c5 : PySem.W.codeIn K cd5 "_law_trim" = true) (k5 : PySem.W.keepIn K (.ref f5) = true)
    (a6 : PySem.W.nsIn K mainGlobals "filled_up" = some (some (.ref f6))) (l6 : K.lookup f6 = some ⟨oc6, od6, .func (PySem.W.fnOf "filled_up" "filled_up" (defArgs s_filled_up) (defBody s_filled_up) (defScope s_filled_up) .none kV6 dc6 pm6 an6 cd6 ct6), sl6⟩) (c6 : PySem.W.codeIn K cd6 "filled_up" = true) (k6 : PySem.W.keepIn K (.ref f6) = true)
    (a7 : PySem.W.nsIn K mainGlobals "add_rows" = some (some (.ref f7))) (l7 : K.lookup f7 = some ⟨oc7, od7, .func (PySem.W.fnOf "add_rows" "add_rows" (defArgs s_add_rows) (defBody s_add_rows) (defScope s_add_rows) .none kV7 dc7 pm7 an7 cd7 ct7), sl7⟩) (c7 : PySem.W.codeIn K cd7 "add_rows" = true) (k7 : PySem.W.keepIn K (.ref f7) = true)
    (a8 : PySem.W.nsIn K mainGlobals "subtract_rows" = some (some (.ref f8))) (l8 : K.lookup f8 = some ⟨oc8, od8, .func (PySem.W.fnOf "subtract_rows" "subtract_rows" (defArgs s_subtract_rows) (defBody s_subtract_rows) (defScope s_subtract_rows) .none kV8 dc8 pm8 an8 cd8 ct8), sl8⟩) (c8 : PySem.W.codeIn K cd8 "subtract_rows" = true) (k8 : PySem.W.keepIn K (.ref f8) = true)
    (a9 : PySem.W.nsIn K mainGlobals "multiply_rows" = some (some (.ref f9))) (l9 : K.lookup f9 = some ⟨oc9, od9, .func (PySem.W.fnOf "multiply_rows" "multiply_rows" (defArgs s_multiply_rows) (defBody s_multiply_rows) (defScope s_multiply_rows) .none kV9 dc9 pm9 an9 cd9 ct9), sl9⟩) (c9 : PySem.W.codeIn K cd9 "multiply_rows" = true) (k9 : PySem.W.keepIn K (.ref f9) = true)
    (a10 : PySem.W.nsIn K mainGlobals "_law_times" = some (some (.ref f10))) (l10 : K.lookup f10 = some ⟨oc10, od10, .func (PySem.W.fnOf "_law_times" "_law_times" (defArgs s__law_times) (defBody s__law_times) (defScope s__law_times) .none kV10 dc10 pm10 an10 cd10 ct10), sl10⟩) (c10 : PySem.W.codeIn K cd10 "_law_times" = true) (k10 : PySem.W.keepIn K (.ref f10) = true)
    (a11 : PySem.W.nsIn K mainGlobals "cofactors" = some (some (.ref f11))) (l11 : K.lookup f11 = some ⟨oc11, od11, .func (PySem.W.fnOf "cofactors" "cofactors" (defArgs s_cofactors) (defBody s_cofactors) (defScope s_cofactors) .none kV11 dc11 pm11 an11 cd11 ct11), sl11⟩) (c11 : PySem.W.codeIn K cd11 "cofactors" = true) (k11 : PySem.W.keepIn K (.ref f11) = true)
    (a12 : PySem.W.nsIn K mainGlobals "inverse_modulo" = some (some (.ref f12))) (l12 : K.lookup f12 = some ⟨oc12, od12, .func (PySem.W.fnOf "inverse_modulo" "inverse_modulo" (defArgs s_inverse_modulo) (defBody s_inverse_modulo) (defScope s_inverse_modulo) .none kV12 dc12 pm12 an12 cd12 ct12), sl12⟩) (c12 : PySem.W.codeIn K cd12 "inverse_modulo" = true) (k12 : PySem.W.keepIn K (.ref f12) = true)
    (a13 : PySem.W.nsIn K mainGlobals "divide_rows" = some (some (.ref f13))) (l13 : K.lookup f13 = some ⟨oc13, od13, .func (PySem.W.fnOf "divide_rows" "divide_rows" (defArgs s_divide_rows) (defBody s_divide_rows) (defScope s_divide_rows) .none kV13 dc13 pm13 an13 cd13 ct13), sl13⟩) (c13 : PySem.W.codeIn K cd13 "divide_rows" = true) (k13 : PySem.W.keepIn K (.ref f13) = true)
    (a14 : PySem.W.nsIn K mainGlobals "_law_refused" = some (some (.ref f14))) (l14 : K.lookup f14 = some ⟨oc14, od14, .func (PySem.W.fnOf "_law_refused" "_law_refused" (defArgs s__law_refused) (defBody s__law_refused) (defScope s__law_refused) .none kV14 dc14 pm14 an14 cd14 ct14), sl14⟩) (c14 : PySem.W.codeIn K cd14 "_law_refused" = true) (k14 : PySem.W.keepIn K (.ref f14) = true)
    (a15 : PySem.W.nsIn K mainGlobals "common_row" = some (some (.ref f15))) (l15 : K.lookup f15 = some ⟨oc15, od15, .func (PySem.W.fnOf "common_row" "common_row" (defArgs s_common_row) (defBody s_common_row) (defScope s_common_row) .none kV15 dc15 pm15 an15 cd15 ct15), sl15⟩) (c15 : PySem.W.codeIn K cd15 "common_row" = true) (k15 : PySem.W.keepIn K (.ref f15) = true)
    (a16 : PySem.W.nsIn K mainGlobals "_law_rest" = some (some (.ref f16))) (l16 : K.lookup f16 = some ⟨oc16, od16, .func (PySem.W.fnOf "_law_rest" "_law_rest" (defArgs s__law_rest) (defBody s__law_rest) (defScope s__law_rest) .none kV16 dc16 pm16 an16 cd16 ct16), sl16⟩) (c16 : PySem.W.codeIn K cd16 "_law_rest" = true) (k16 : PySem.W.keepIn K (.ref f16) = true)
    (a17 : PySem.W.nsIn K mainGlobals "by_squaring" = some (some (.ref f17))) (l17 : K.lookup f17 = some ⟨oc17, od17, .func (PySem.W.fnOf "by_squaring" "by_squaring" (defArgs s_by_squaring) (defBody s_by_squaring) (defScope s_by_squaring) .none kV17 dc17 pm17 an17 cd17 ct17), sl17⟩) (c17 : PySem.W.codeIn K cd17 "by_squaring" = true) (k17 : PySem.W.keepIn K (.ref f17) = true)
    (a18 : PySem.W.nsIn K mainGlobals "power_row" = some (some (.ref f18))) (l18 : K.lookup f18 = some ⟨oc18, od18, .func (PySem.W.fnOf "power_row" "power_row" (defArgs s_power_row) (defBody s_power_row) (defScope s_power_row) .none kV18 dc18 pm18 an18 (.ref cc18) ct18), sl18⟩) (c18 : PySem.W.codeIn K (.ref cc18) "power_row" = true) (k18 : PySem.W.keepIn K (.ref f18) = true)
    (a19 : PySem.W.nsIn K mainGlobals "law" = some (some (.ref f19))) (l19 : K.lookup f19 = some ⟨oc19, od19, .func (PySem.W.fnOf "law" "law" (defArgs s_law) (defBody s_law) (defScope s_law) .none kV19 dc19 pm19 an19 cd19 ct19), sl19⟩) (c19 : PySem.W.codeIn K cd19 "law" = true) (k19 : PySem.W.keepIn K (.ref f19) = true)
    (z_abs : PySem.W.nsIn K mainGlobals "abs" = some none)
    (z_int : PySem.W.nsIn K mainGlobals "int" = some none)
    (z_len : PySem.W.nsIn K mainGlobals "len" = some none)
    (z_tuple : PySem.W.nsIn K mainGlobals "tuple" = some none)
    (z_max : PySem.W.nsIn K mainGlobals "max" = some none)
    (z_zip : PySem.W.nsIn K mainGlobals "zip" = some none)
    (z_enumerate : PySem.W.nsIn K mainGlobals "enumerate" = some none)
    (z_range : PySem.W.nsIn K mainGlobals "range" = some none)
    (z_list : PySem.W.nsIn K mainGlobals "list" = some none)
    (z_reversed : PySem.W.nsIn K mainGlobals "reversed" = some none)
    (z_ValueError : PySem.W.nsIn K mainGlobals "ValueError" = some none)
    (z_isinstance : PySem.W.nsIn K mainGlobals "isinstance" = some none)
    (gn_fault : PySem.W.nsIn K mainGlobals "Fault" = some (some (.ref c_fault)))
    (gn_zd : PySem.W.nsIn K mainGlobals "ZeroDivisor" = some (some (.ref c_zd)))
    (xx_zd : PySem.W.excIn K c_zd [.type "ValueError", .type "Exception", .type "BaseException", .type "object"] "ValueError.__new__" = true)
    (xk_zd : PySem.W.keepIn K (.ref c_zd) = true)
    (xb_zd : PySem.W.subIn K (.ref c_zd) (.type "BaseException") = some true)
    (xt_zd : PySem.W.typeIn K (.ref c_zd) = some (.type "type"))
    (ed_zd : PySem.W.hasDictIn K c_zd = true)
    (ss_zd_zd : PySem.W.subIn K (.ref c_zd) (.ref c_zd) = some true)
    (eg_zd : PySem.W.findIn K (.ref c_zd) "__getattribute__" = some (some (.builtin "BaseException.__getattribute__")))
    (ek_zd : PySem.W.findIn K (.ref c_zd) "__getattr__" = some none)
    (ea_zd : PySem.W.findIn K (.ref c_zd) "__class__" = some (some (.builtin "object.__class__")))
    (en : PySem.W.specialIn K (.builtin "object.__class__") "__get__" = some (some (.builtin "getset_descriptor.__get__")))
    (et : PySem.W.takesIn K (.builtin "object.__class__") = some true)
    (em_zd : PySem.W.mroIn K c_zd (.type "object") = some true)
    (st_zd_ValueError : PySem.W.subIn K (.ref c_zd) (.type "ValueError") = some true)
    (q18 : K.lookup cc18 = some ⟨tc18, td18, .fields tv18, ts18⟩) (p18 : tv18[11]? = some (.ref PT18)) (h18 : PySem.W.codeHdIn K cc18 PT18 = true) (u18 : K.lookup PT18 = none) (v18 : h.get? PT18 = some { cls := .none, data := .fields #[] })
    (hmath : ∀ ns : List Int, ns.length ≤ 63 → m_law ns = R.ok true)
    : LamX.LawAtS l w K CX0 7 63 "script" mg fa h := by
  have e := hfa.symm.trans (PySem.W.mg_of X G a19)
  cases e
  have F1 := fun_mk (st := s__law_state) l1 c1 k1
  have b1 := F1.binds (ps := ["script"]) fun _ _ _ _ _ _ us hl => match us, hl with | [_], _ => rfl
  have F2 := fun_mk (st := s__law_take) l2 c2 k2
  have b2 := F2.binds (ps := ["state", "m"]) fun _ _ _ _ _ _ us hl => match us, hl with | [_, _], _ => rfl
  have F3 := fun_mk (st := s_without_end) l3 c3 k3
  have b3 := F3.binds (ps := ["items", "zero"]) fun _ _ _ _ _ _ us hl => match us, hl with | [_, _], _ => rfl
  have F4 := fun_mk (st := s_trimmed) l4 c4 k4
  have b4 := F4.binds (ps := ["row", "p"]) fun _ _ _ _ _ _ us hl => match us, hl with | [_, _], _ => rfl
  have F5 := fun_mk (st := s__law_trim) l5 c5 k5
  have b5 := F5.binds (ps := ["row", "p"]) fun _ _ _ _ _ _ us hl => match us, hl with | [_, _], _ => rfl
  have F6 := fun_mk (st := s_filled_up) l6 c6 k6
  have b6 := F6.binds (ps := ["items", "length", "zero"]) fun _ _ _ _ _ _ us hl => match us, hl with | [_, _, _], _ => rfl
  have F7 := fun_mk (st := s_add_rows) l7 c7 k7
  have b7 := F7.binds (ps := ["a", "b", "p"]) fun _ _ _ _ _ _ us hl => match us, hl with | [_, _, _], _ => rfl
  have F8 := fun_mk (st := s_subtract_rows) l8 c8 k8
  have b8 := F8.binds (ps := ["a", "b", "p"]) fun _ _ _ _ _ _ us hl => match us, hl with | [_, _, _], _ => rfl
  have F9 := fun_mk (st := s_multiply_rows) l9 c9 k9
  have b9 := F9.binds (ps := ["a", "b", "p"]) fun _ _ _ _ _ _ us hl => match us, hl with | [_, _, _], _ => rfl
  have F10 := fun_mk (st := s__law_times) l10 c10 k10
  have b10 := F10.binds (ps := ["a", "b", "p"]) fun _ _ _ _ _ _ us hl => match us, hl with | [_, _, _], _ => rfl
  have F11 := fun_mk (st := s_cofactors) l11 c11 k11
  have b11 := F11.binds (ps := ["a", "b"]) fun _ _ _ _ _ _ us hl => match us, hl with | [_, _], _ => rfl
  have F12 := fun_mk (st := s_inverse_modulo) l12 c12 k12
  have b12 := F12.binds (ps := ["a", "m"]) fun _ _ _ _ _ _ us hl => match us, hl with | [_, _], _ => rfl
  have F13 := fun_mk (st := s_divide_rows) l13 c13 k13
  have b13 := F13.binds (ps := ["a", "b", "p"]) fun _ _ _ _ _ _ us hl => match us, hl with | [_, _, _], _ => rfl
  have F14 := fun_mk (st := s__law_refused) l14 c14 k14
  have b14 := F14.binds (ps := ["a", "p"]) fun _ _ _ _ _ _ us hl => match us, hl with | [_, _], _ => rfl
  have F15 := fun_mk (st := s_common_row) l15 c15 k15
  have b15 := F15.binds (ps := ["a", "b", "p"]) fun _ _ _ _ _ _ us hl => match us, hl with | [_, _, _], _ => rfl
  have F16 := fun_mk (st := s__law_rest) l16 c16 k16
  have b16 := F16.binds (ps := ["a", "m", "p"]) fun _ _ _ _ _ _ us hl => match us, hl with | [_, _, _], _ => rfl
  have F17 := fun_mk (st := s_by_squaring) l17 c17 k17
  have b17 := F17.binds (ps := ["one", "base", "k", "product"]) fun _ _ _ _ _ _ us hl => match us, hl with | [_, _, _, _], _ => rfl
  have F18 := fun_mk (st := s_power_row) l18 c18 k18
  have b18 := F18.binds (ps := ["a", "k", "m", "p"]) fun _ _ _ _ _ _ us hl => match us, hl with | [_, _, _, _], _ => rfl
  have F19 := fun_mk (st := s_law) l19 c19 k19
  have b19 := F19.binds (ps := ["script"]) fun _ _ _ _ _ _ us hl => match us, hl with | [_], _ => rfl
  have z_abs := PySem.W.mg_none_of X G z_abs
  have z_int := PySem.W.mg_none_of X G z_int
  have z_len := PySem.W.mg_none_of X G z_len
  have z_tuple := PySem.W.mg_none_of X G z_tuple
  have z_max := PySem.W.mg_none_of X G z_max
  have z_zip := PySem.W.mg_none_of X G z_zip
  have z_enumerate := PySem.W.mg_none_of X G z_enumerate
  have z_range := PySem.W.mg_none_of X G z_range
  have z_list := PySem.W.mg_none_of X G z_list
  have z_reversed := PySem.W.mg_none_of X G z_reversed
  have z_ValueError := PySem.W.mg_none_of X G z_ValueError
  have z_isinstance := PySem.W.mg_none_of X G z_isinstance
  have T18 := funT_mk (st := s_power_row) (PT := PT18) l18 c18
  refine ⟨PySem.W.fnOf "law" "law" (defArgs s_law) (defBody s_law) (defScope s_law) .none kV19 dc19 pm19 an19 cd19 ct19, [(cc18, PT18)], sp_law K [PT18], (List.forall_mem_cons.mpr ⟨v18, (fun _ z => nomatch z)⟩), (List.forall_mem_cons.mpr ⟨u18, (fun _ z => nomatch z)⟩), (List.forall_mem_cons.mpr ⟨PySem.W.codeHd_of_K X h18, (fun _ z => nomatch z)⟩), fun s v => .of_eq rfl, fun H a ns hl _ hH hS => ⟨ns, a, rfl, ⟨_, hS, Mir.of_ints⟩, (List.forall_mem_cons.mpr ⟨NdefX.TabN.nil (hH (cc18, PT18) (by simp)), (fun _ z => nomatch z)⟩), by rw [hmath ns hl]; exact fun _ _ => rfl⟩, fun base _ _ TBs => ?_⟩
  have TB18 := TBs (cc18, PT18) (by simp)
  generalize hTT : [PT18] = TT
  have hP18 : PT18 ∈ TT := by rw [← hTT]; simp
  have Xk_zd : Xk K mg "ZeroDivisor" c_zd := ⟨PySem.W.mg_of X G gn_zd, xx_zd, xk_zd, xb_zd, xt_zd⟩
  have kc_zd_zd := kc_of xb_zd ed_zd xt_zd ss_zd_zd
  have em_zd_zd := PySem.W.exm_ref xb_zd ed_zd xt_zd ss_zd_zd
  have EC_zd : L2.ExcC K c_zd := ⟨eg_zd, ek_zd, xb_zd, ed_zd, ea_zd, en, et, em_zd⟩
  have ko_zd_ValueError := ko_true (kt_of (T := "ValueError") (by decide +kernel) st_zd_ValueError)
  have gc_zd := PySem.W.mg_of X G gn_zd
  have C__law_state : Cal l.prog w K mg base CX0 1 "_law_state" ["script"] (sp__law_state K) := ⟨f1, _, ok__law_state F1 z_abs z_int, PySem.W.mg_of X G a1, k1, b1⟩
  have C__law_take : Cal l.prog w K mg base CX0 1 "_law_take" ["state", "m"] (sp__law_take K) := ⟨f2, _, ok__law_take F2 z_int, PySem.W.mg_of X G a2, k2, b2⟩
  have C_without_end : Cal l.prog w K mg base CX0 1 "without_end" ["items", "zero"] (sp_without_end K) := ⟨f3, _, ok_without_end F3 z_len z_tuple, PySem.W.mg_of X G a3, k3, b3⟩
  have C_trimmed : Cal l.prog w K mg base CX0 2 "trimmed" ["row", "p"] (sp_trimmed K) := ⟨f4, _, ok_trimmed F4 C_without_end, PySem.W.mg_of X G a4, k4, b4⟩
  have C__law_trim : Cal l.prog w K mg base CX0 1 "_law_trim" ["row", "p"] (sp__law_trim K) := ⟨f5, _, ok__law_trim F5 z_len z_tuple, PySem.W.mg_of X G a5, k5, b5⟩
  have C_trimmed_2 : Cal l.prog w K mg base CX0 2 "trimmed" ["row", "p"] (sp_trimmed_2 K) := ⟨f4, _, ok_trimmed_2 F4 C_without_end, PySem.W.mg_of X G a4, k4, b4⟩
  have C_filled_up : Cal l.prog w K mg base CX0 1 "filled_up" ["items", "length", "zero"] (sp_filled_up K) := ⟨f6, _, ok_filled_up F6 z_tuple z_len, PySem.W.mg_of X G a6, k6, b6⟩
  have C_trimmed_3 : Cal l.prog w K mg base CX0 2 "trimmed" ["row", "p"] (sp_trimmed_3 K) := ⟨f4, _, ok_trimmed_3 F4 C_without_end, PySem.W.mg_of X G a4, k4, b4⟩
  have C_add_rows : Cal l.prog w K mg base CX0 3 "add_rows" ["a", "b", "p"] (sp_add_rows K) := ⟨f7, _, ok_add_rows F7 z_len z_max z_zip C_filled_up C_trimmed_3, PySem.W.mg_of X G a7, k7, b7⟩
  have C__law_trim_2 : Cal l.prog w K mg base CX0 1 "_law_trim" ["row", "p"] (sp__law_trim_2 K) := ⟨f5, _, ok__law_trim_2 F5 z_len z_tuple, PySem.W.mg_of X G a5, k5, b5⟩
  have C_filled_up_2 : Cal l.prog w K mg base CX0 1 "filled_up" ["items", "length", "zero"] (sp_filled_up_2 K) := ⟨f6, _, ok_filled_up_2 F6 z_tuple z_len, PySem.W.mg_of X G a6, k6, b6⟩
  have C_add_rows_2 : Cal l.prog w K mg base CX0 3 "add_rows" ["a", "b", "p"] (sp_add_rows_2 K) := ⟨f7, _, ok_add_rows_2 F7 z_len z_max z_zip C_filled_up C_filled_up_2 C_trimmed_3, PySem.W.mg_of X G a7, k7, b7⟩
  have C_subtract_rows : Cal l.prog w K mg base CX0 4 "subtract_rows" ["a", "b", "p"] (sp_subtract_rows K) := ⟨f8, _, ok_subtract_rows F8 C_add_rows_2, PySem.W.mg_of X G a8, k8, b8⟩
  have C_multiply_rows : Cal l.prog w K mg base CX0 3 "multiply_rows" ["a", "b", "p"] (sp_multiply_rows K) := ⟨f9, _, ok_multiply_rows F9 z_len z_enumerate C_trimmed_3, PySem.W.mg_of X G a9, k9, b9⟩
  have C__law_times : Cal l.prog w K mg base CX0 2 "_law_times" ["a", "b", "p"] (sp__law_times K) := ⟨f10, _, ok__law_times F10 z_len z_range C__law_trim_2, PySem.W.mg_of X G a10, k10, b10⟩
  have C_cofactors : Cal l.prog w K mg base CX0 1 "cofactors" ["a", "b"] (sp_cofactors K) := ⟨f11, _, ok_cofactors F11 , PySem.W.mg_of X G a11, k11, b11⟩
  have C_inverse_modulo : Cal l.prog w K mg base (CX l.prog w) 2 "inverse_modulo" ["a", "m"] (sp_inverse_modulo K (⟨some c_fault, some c_zd, none, none, none⟩ : Xc)) := ⟨f12, _, ok_inverse_modulo F12 Xk_zd C_cofactors, PySem.W.mg_of X G a12, k12, b12⟩
  have C_divide_rows : Cal l.prog w K mg base (CX l.prog w) 3 "divide_rows" ["a", "b", "p"] (sp_divide_rows K (⟨some c_fault, some c_zd, none, none, none⟩ : Xc)) := ⟨f13, _, ok_divide_rows F13 z_list z_len z_reversed z_range z_enumerate Xk_zd C_inverse_modulo C_trimmed_3, PySem.W.mg_of X G a13, k13, b13⟩
  have C__law_refused : Cal l.prog w K mg base CX0 4 "_law_refused" ["a", "p"] (sp__law_refused K) := ⟨f14, _, ok__law_refused F14 z_ValueError z_isinstance em_zd_zd EC_zd ko_zd_ValueError gc_zd C_divide_rows, PySem.W.mg_of X G a14, k14, b14⟩
  have C_common_row : Cal l.prog w K mg base (CX l.prog w) 4 "common_row" ["a", "b", "p"] (sp_common_row K (⟨some c_fault, some c_zd, none, none, none⟩ : Xc)) := ⟨f15, _, ok_common_row F15 C_divide_rows C_inverse_modulo C_multiply_rows, PySem.W.mg_of X G a15, k15, b15⟩
  have C__law_rest : Cal l.prog w K mg base CX0 2 "_law_rest" ["a", "m", "p"] (sp__law_rest K) := ⟨f16, _, ok__law_rest F16 z_len z_range C__law_trim_2, PySem.W.mg_of X G a16, k16, b16⟩
  have O_lam1 : LOk l.prog w K mg base (CX l.prog w) 4 lw_lam1 ["x", "y"] ["m", "p"] (spl_lam1 K (⟨some c_fault, some c_zd, none, none, none⟩ : Xc)) := okl_lam1 C_multiply_rows C_divide_rows
  have C_by_squaring : CalC l.prog w K mg base (CX l.prog w) 5 "by_squaring" ["one", "base", "k", "product"] lw_lam1 ["m", "p"] (sp_by_squaring K (⟨some c_fault, some c_zd, none, none, none⟩ : Xc)) := ⟨f17, _, ok_by_squaring F17 O_lam1, PySem.W.mg_of X G a17, k17, b17⟩
  have C_power_row : Cal l.prog w K mg base (CX l.prog w) 6 "power_row" ["a", "k", "m", "p"] (sp_power_row K (⟨some c_fault, some c_zd, none, none, none⟩ : Xc) TT) := ⟨f18, _, ok_power_row T18 TB18 hP18 C_divide_rows C_by_squaring, PySem.W.mg_of X G a18, k18, b18⟩
  exact ok_law F19 z_range z_tuple z_len z_max z_list z_zip C__law_state C__law_take C_trimmed C__law_trim C_trimmed_2 C_add_rows C__law_trim_2 C_subtract_rows C_multiply_rows C__law_times C__law_refused C_common_row C__law_rest C_divide_rows C_power_row

end Pf
set_option Elab.async false
set_option linter.all false
namespace Pol
open Lean.Grind
/-! ### endless rows of coefficients: a ring -/
structure PS (K : Type) where
  c : Nat → K
/-- the integers in a ring -/
def ic (K : Type) [CommRing K] (x : Int) : K := Ring.intCast.intCast x
def nc (K : Type) [CommRing K] (x : Nat) : K := Semiring.natCast.natCast x
section
variable {K : Type} [CommRing K]
theorem PS.ext {f g : PS K} (h : ∀ i, f.c i = g.c i) : f = g := by
  cases f
  cases g
  congr 1
  exact funext h
def tl (f : Nat → K) : Nat → K := fun i => f (i + 1)
/-- the coefficient k of a product -/
def mc (f g : Nat → K) : Nat → K
  | 0 => f 0 * g 0
  | k + 1 => f 0 * g (k + 1) + mc (tl f) g k
theorem mc_add_r (f g h : Nat → K) (k : Nat) : mc f (fun i => g i + h i) k = mc f g k + mc f h k := by
  induction k generalizing f with
  | zero => simp only [mc]; grind
  | succ k ih => simp only [mc, ih]; grind
theorem mc_add_l (f g h : Nat → K) (k : Nat) : mc (fun i => f i + g i) h k = mc f h k + mc g h k := by
  induction k generalizing f g with
  | zero => simp only [mc]; grind
  | succ k ih =>
    have e := ih (tl f) (tl g)
    simp only [mc]
    rw [show tl (fun i => f i + g i) = fun i => tl f i + tl g i from rfl, e]
    grind
theorem mc_smul_l (a : K) (f g : Nat → K) (k : Nat) : mc (fun i => a * f i) g k = a * mc f g k := by
  induction k generalizing f with
  | zero => simp only [mc]; grind
  | succ k ih =>
    have e := ih (tl f)
    simp only [mc]
    rw [show tl (fun i => a * f i) = fun i => a * tl f i from rfl, e]
    grind
theorem mc_right (f g : Nat → K) (k : Nat) : mc f g (k + 1) = g 0 * f (k + 1) + mc f (tl g) k := by
  induction k generalizing f with
  | zero => simp only [mc, tl]; grind
  | succ k ih =>
    rw [show mc f g (k + 2) = f 0 * g (k + 2) + mc (tl f) g (k + 1) from rfl, ih, show mc f (tl g) (k + 1) = f 0 * g (k + 2) + mc (tl f) (tl g) k from rfl]
    simp only [tl]
    grind
theorem mc_comm (f g : Nat → K) (k : Nat) : mc f g k = mc g f k := by
  induction k generalizing f with
  | zero => simp only [mc]; grind
  | succ k ih => rw [mc_right g f k, ← ih]; rfl
theorem mc_assoc (f g h : Nat → K) (k : Nat) : mc (mc f g) h k = mc f (mc g h) k := by
  induction k generalizing f with
  | zero => simp only [mc]; grind
  | succ k ih =>
    have e : tl (mc f g) = fun i => f 0 * tl g i + mc (tl f) g i := rfl
    rw [show mc (mc f g) h (k + 1) = f 0 * g 0 * h (k + 1) + mc (tl (mc f g)) h k from rfl, e, mc_add_l, mc_smul_l, ih, show mc f (mc g h) (k + 1) = f 0 * (g 0 * h (k + 1) + mc (tl g) h k) + mc (tl f) (mc g h) k from rfl]
    grind
theorem mc_zero_l (g : Nat → K) (k : Nat) : mc (fun _ => 0) g k = 0 := by
  induction k with
  | zero => simp only [mc]; grind
  | succ k ih =>
    show 0 * g (k + 1) + mc (fun _ => 0) g k = 0
    rw [ih]
    grind
def cst (a : K) : Nat → K := fun i => if i = 0 then a else 0
theorem mc_cst (a : K) (g : Nat → K) (k : Nat) : mc (cst a) g k = a * g k := by
  cases k with
  | zero => rfl
  | succ k =>
    show a * g (k + 1) + mc (fun _ => 0) g k = _
    rw [mc_zero_l]
    grind
instance : Add (PS K) := ⟨fun f g => ⟨fun i => f.c i + g.c i⟩⟩
instance : Mul (PS K) := ⟨fun f g => ⟨mc f.c g.c⟩⟩
instance : Neg (PS K) := ⟨fun f => ⟨fun i => -f.c i⟩⟩
instance : Sub (PS K) := ⟨fun f g => ⟨fun i => f.c i - g.c i⟩⟩
instance : NatCast (PS K) := ⟨fun n => ⟨cst (nc K n)⟩⟩
instance (n : Nat) : OfNat (PS K) n := ⟨⟨cst (OfNat.ofNat n : K)⟩⟩
instance : IntCast (PS K) := ⟨fun n => ⟨cst (ic K n)⟩⟩
instance : SMul Nat (PS K) := ⟨fun n f => (n : PS K) * f⟩
instance : SMul Int (PS K) := ⟨fun n f => (n : PS K) * f⟩
def PS.npow (f : PS K) : Nat → PS K
  | 0 => 1
  | n + 1 => PS.npow f n * f
instance : HPow (PS K) Nat (PS K) := ⟨PS.npow⟩
theorem add_c (f g : PS K) (i : Nat) : (f + g).c i = f.c i + g.c i := rfl
theorem sub_c (f g : PS K) (i : Nat) : (f - g).c i = f.c i - g.c i := rfl
theorem neg_c (f : PS K) (i : Nat) : (-f).c i = -f.c i := rfl
theorem mul_c (f g : PS K) (i : Nat) : (f * g).c i = mc f.c g.c i := rfl
theorem zero_c (i : Nat) : (0 : PS K).c i = 0 := by
  show cst (0 : K) i = 0
  unfold cst
  split <;> rfl
theorem one_c (i : Nat) : (1 : PS K).c i = if i = 0 then 1 else 0 := rfl
instance : CommRing (PS K) := {
  add_zero := fun f => PS.ext fun i => by rw [add_c, zero_c]; grind
  add_comm := fun f g => PS.ext fun i => by rw [add_c, add_c]; grind
  add_assoc := fun f g h => PS.ext fun i => by simp only [add_c]; grind
  mul_assoc := fun f g h => PS.ext fun i => mc_assoc f.c g.c h.c i
  mul_comm := fun f g => PS.ext fun i => mc_comm f.c g.c i
  mul_one := fun f => PS.ext fun i => by
    rw [mul_c, mc_comm]
    show mc (cst (1 : K)) f.c i = f.c i
    rw [mc_cst]
    grind
  one_mul := fun f => PS.ext fun i => by
    rw [mul_c]
    show mc (cst (1 : K)) f.c i = f.c i
    rw [mc_cst]
    grind
  mul_zero := fun f => PS.ext fun i => by
    rw [mul_c, mc_comm, zero_c]
    show mc (cst (0 : K)) f.c i = 0
    rw [mc_cst]
    grind
  right_distrib := fun f g h => PS.ext fun i => mc_add_l f.c g.c h.c i
  left_distrib := fun f g h => PS.ext fun i => mc_add_r f.c g.c h.c i
  zero_mul := fun f => PS.ext fun i => by
    rw [mul_c, zero_c]
    show mc (cst (0 : K)) f.c i = 0
    rw [mc_cst]
    grind
  pow_zero := fun f => rfl
  pow_succ := fun f n => rfl
  ofNat_succ := fun n => PS.ext fun i => by
    show cst (OfNat.ofNat (n + 1) : K) i = cst (OfNat.ofNat n : K) i + cst (1 : K) i
    unfold cst
    split
    · exact Semiring.ofNat_succ n
    · grind
  ofNat_eq_natCast := fun n => PS.ext fun i => by
    show cst (OfNat.ofNat n : K) i = cst (nc K n) i
    rw [Semiring.ofNat_eq_natCast]
    rfl
  nsmul_eq_natCast_mul := fun n f => rfl
  neg_add_cancel := fun f => PS.ext fun i => by rw [add_c, neg_c, zero_c]; grind
  sub_eq_add_neg := fun f g => PS.ext fun i => by rw [add_c, neg_c, sub_c]; grind
  neg_zsmul := fun n f => PS.ext fun i => by
    show mc (cst (ic K (-n))) f.c i = -mc (cst (ic K n)) f.c i
    rw [mc_cst, mc_cst, show ic K (-n) = -ic K n from Ring.intCast_neg n]
    grind
  zsmul_natCast_eq_nsmul := fun n f => PS.ext fun i => by
    show mc (cst (ic K (n : Int))) f.c i = mc (cst (nc K n)) f.c i
    rw [show ic K (n : Int) = nc K n from Ring.intCast_natCast n]
  intCast_ofNat := fun n => PS.ext fun i => by
    show cst (ic K (OfNat.ofNat n : Int)) i = cst (OfNat.ofNat n : K) i
    rw [show ic K (OfNat.ofNat n : Int) = (OfNat.ofNat n : K) from Ring.intCast_ofNat n]
  intCast_neg := fun n => PS.ext fun i => by
    show cst (ic K (-n)) i = -cst (ic K n) i
    unfold cst
    split
    · exact Ring.intCast_neg n
    · grind
}
example (a b c : PS K) : (a + b) * c = c * b + a * c := by grind
/-! ### degrees -/
/-- nothing from n on -/
def dlt (n : Nat) (f : PS K) : Prop := ∀ i, n ≤ i → f.c i = 0
def fin (f : PS K) : Prop := ∃ n, dlt n f
theorem dlt.mono {m n : Nat} {f : PS K} (h : dlt m f) (l : m ≤ n) : dlt n f := fun i hi => h i (Nat.le_trans l hi)
theorem mc_left (f g : Nat → K) (n : Nat) (hf : ∀ i, n ≤ i → f i = 0) (k m : Nat) (hg : ∀ i, m ≤ i → g i = 0) (hk : n + m ≤ k + 1) : n = 0 ∨ mc f g k = 0 := by
  induction k generalizing f n with
  | zero =>
    by_cases z : n = 0
    · exact .inl z
    · right
      have : m = 0 := by omega
      subst this
      show f 0 * g 0 = 0
      rw [hg 0 (Nat.le_refl _)]
      grind
  | succ k ih =>
    by_cases z : n = 0
    · exact .inl z
    · right
      show f 0 * g (k + 1) + mc (tl f) g k = 0
      have e1 : mc (tl f) g k = 0 := by
        rcases ih (tl f) (n - 1) (fun i hi => hf (i + 1) (by omega)) (by omega) with q | q
        · have zf : tl f = fun _ => (0 : K) := funext fun i => hf (i + 1) (by omega)
          rw [zf]
          exact mc_zero_l g k
        · exact q
      rw [e1, hg (k + 1) (by omega)]
      grind
theorem dlt.mul {m n : Nat} {f g : PS K} (hf : dlt n f) (hg : dlt m g) : dlt (n + m - 1) (f * g) := fun k hk => by
  by_cases z : n = 0
  · have zf : f.c = fun _ => (0 : K) := funext fun i => hf i (by omega)
    rw [mul_c, zf]
    exact mc_zero_l g.c k
  · exact (mc_left f.c g.c n hf k m hg (by omega)).resolve_left z
theorem dlt.add {n : Nat} {f g : PS K} (hf : dlt n f) (hg : dlt n g) : dlt n (f + g) := fun i hi => by rw [add_c, hf i hi, hg i hi]; grind
theorem dlt.sub {n : Nat} {f g : PS K} (hf : dlt n f) (hg : dlt n g) : dlt n (f - g) := fun i hi => by rw [sub_c, hf i hi, hg i hi]; grind
theorem fin.mul {f g : PS K} (hf : fin f) (hg : fin g) : fin (f * g) := let ⟨n, h⟩ := hf; let ⟨m, k⟩ := hg; ⟨_, h.mul k⟩
theorem fin.add {f g : PS K} (hf : fin f) (hg : fin g) : fin (f + g) := let ⟨n, h⟩ := hf; let ⟨m, k⟩ := hg; ⟨n + m, (h.mono (by omega)).add (k.mono (by omega))⟩
theorem fin.sub {f g : PS K} (hf : fin f) (hg : fin g) : fin (f - g) := let ⟨n, h⟩ := hf; let ⟨m, k⟩ := hg; ⟨n + m, (h.mono (by omega)).sub (k.mono (by omega))⟩
theorem mc_top (f g : Nat → K) (d t : Nat) (hf : ∀ i, d + 1 ≤ i → f i = 0) (hg : ∀ i, t + 1 ≤ i → g i = 0) : mc f g (d + t) = f d * g t := by
  induction d generalizing f with
  | zero =>
    rw [Nat.zero_add]
    cases t with
    | zero => rfl
    | succ t =>
      have zf : tl f = fun _ => (0 : K) := funext fun i => hf (i + 1) (by omega)
      show f 0 * g (t + 1) + mc (tl f) g t = _
      rw [zf, mc_zero_l]
      grind
  | succ d ih =>
    rw [show d + 1 + t = d + t + 1 by omega]
    show f 0 * g (d + t + 1) + mc (tl f) g (d + t) = _
    rw [ih (tl f) (fun i hi => hf (i + 1) (by omega)), hg (d + t + 1) (by omega)]
    show f 0 * 0 + f (d + 1) * g t = _
    grind
theorem top_c {f g : PS K} {d t : Nat} (hf : dlt (d + 1) f) (hg : dlt (t + 1) g) : (f * g).c (d + t) = f.c d * g.c t := mc_top f.c g.c d t hf hg
theorem eq_zero {f : PS K} (h : dlt 0 f) : f = 0 := PS.ext fun i => by rw [h i (Nat.zero_le _), zero_c]
/-- no products of two others are zero -/
def NZD (K : Type) [CommRing K] : Prop := ∀ a b : K, a * b = 0 → a = 0 ∨ b = 0
theorem cof_zero {q b : PS K} {d : Nat} (nz : ∀ a : K, a * b.c d = 0 → a = 0) (hb : dlt (d + 1) b) (hq : fin q) (h : dlt d (q * b)) : q = 0 := by
  obtain ⟨n, hn⟩ := hq
  suffices z : ∀ n, dlt n q → dlt 0 q from eq_zero (z n hn)
  intro n
  induction n with
  | zero => exact id
  | succ t ih =>
    intro ht
    refine ih fun i hi => ?_
    by_cases e : i = t
    · subst e
      refine nz _ ?_
      rw [← top_c ht hb]
      exact h _ (by omega)
    · exact ht i (by omega)
/-- the remainder is one alone -/
theorem rem_uniq {a b q r q' r' : PS K} {d : Nat} (nz : ∀ a : K, a * b.c d = 0 → a = 0) (hb : dlt (d + 1) b) (hq : fin q) (hq' : fin q') (hr : dlt d r) (hr' : dlt d r') (h : a = q * b + r) (h' : a = q' * b + r') : r = r' := by
  have e : (q - q') * b = r' - r := by grind
  have z := cof_zero nz hb (hq.sub hq') (by rw [e]; exact hr'.sub hr)
  grind
/-- d divides f -/
def Dv (d f : PS K) : Prop := ∃ u, fin u ∧ f = u * d
theorem Dv.add {d f g : PS K} (h : Dv d f) (k : Dv d g) : Dv d (f + g) := let ⟨u, hu, e⟩ := h; let ⟨v, hv, e2⟩ := k; ⟨u + v, hu.add hv, by grind⟩
theorem Dv.sub {d f g : PS K} (h : Dv d f) (k : Dv d g) : Dv d (f - g) := let ⟨u, hu, e⟩ := h; let ⟨v, hv, e2⟩ := k; ⟨u - v, hu.sub hv, by grind⟩
theorem Dv.mul {d f : PS K} (g : PS K) (hg : fin g) (h : Dv d f) : Dv d (g * f) := let ⟨u, hu, e⟩ := h; ⟨g * u, hg.mul hu, by grind⟩
theorem Dv.trans {d f g : PS K} (h : Dv d f) (k : Dv f g) : Dv d g := let ⟨u, hu, e⟩ := h; let ⟨v, hv, e2⟩ := k; ⟨v * u, hv.mul hu, by grind⟩
theorem fin_zero : fin (0 : PS K) := ⟨0, fun i _ => zero_c i⟩
theorem fin_one : fin (1 : PS K) := ⟨1, fun i hi => by rw [one_c, if_neg (by omega)]⟩
theorem Dv.refl (d : PS K) : Dv d d := ⟨1, fin_one, by grind⟩
theorem Dv.zero (d : PS K) : Dv d 0 := ⟨0, fin_zero, by grind⟩
/-- constants, and the multiples of powers of x -/
def C (a : K) : PS K := ⟨cst a⟩
theorem C_mul_c (a : K) (f : PS K) (i : Nat) : (C a * f).c i = a * f.c i := mc_cst a f.c i
theorem fin_C (a : K) : fin (C a) := ⟨1, fun i hi => by show cst a i = 0; unfold cst; rw [if_neg (by omega)]⟩
def sh (n : Nat) (f : PS K) : PS K := ⟨fun k => if k < n then 0 else f.c (k - n)⟩
theorem sh_c (n : Nat) (f : PS K) (k : Nat) : (sh n f).c k = if k < n then 0 else f.c (k - n) := rfl
theorem sh_zero (f : PS K) : sh 0 f = f := PS.ext fun k => by rw [sh_c, if_neg (by omega), Nat.sub_zero]
theorem sh_add (n : Nat) (f g : PS K) : sh n (f + g) = sh n f + sh n g := PS.ext fun k => by
  rw [add_c, sh_c, sh_c, sh_c]
  split
  · grind
  · rfl
theorem sh_one_mul (f g : PS K) : sh 1 f * g = sh 1 (f * g) := PS.ext fun k => by
  rw [mul_c, sh_c]
  cases k with
  | zero =>
    show (sh 1 f).c 0 * g.c 0 = _
    rw [sh_c, if_pos (by omega), if_pos (by omega)]
    grind
  | succ k =>
    show (sh 1 f).c 0 * g.c (k + 1) + mc (tl (sh 1 f).c) g.c k = _
    rw [sh_c, if_pos (by omega), if_neg (by omega), show tl (sh 1 f).c = f.c from funext fun i => by show (sh 1 f).c (i + 1) = _; rw [sh_c, if_neg (by omega)]; rfl]
    show 0 * g.c (k + 1) + mc f.c g.c k = mc f.c g.c k
    grind
theorem sh_sh (n : Nat) (f : PS K) : sh n (sh 1 f) = sh (n + 1) f := PS.ext fun k => by
  rw [sh_c, sh_c, sh_c]
  by_cases h : k < n
  · rw [if_pos h, if_pos (by omega)]
  · rw [if_neg h]
    by_cases h2 : k - n < 1
    · rw [if_pos h2, if_pos (by omega)]
    · rw [if_neg h2, if_neg (by omega), Nat.sub_sub]
theorem sh_mul (n : Nat) (f g : PS K) : sh n f * g = sh n (f * g) := by
  induction n with
  | zero => rw [sh_zero, sh_zero]
  | succ n ih =>
    have e : sh (n + 1) f = sh 1 (sh n f) := PS.ext fun k => by
      rw [sh_c, sh_c]
      by_cases h : k < 1
      · rw [if_pos h, if_pos (by omega)]
      · rw [if_neg h, sh_c]
        by_cases h2 : k < n + 1
        · rw [if_pos h2, if_pos (by omega)]
        · rw [if_neg h2, if_neg (by omega)]
          congr 1
          omega
    have e2 : sh (n + 1) (f * g) = sh 1 (sh n (f * g)) := PS.ext fun k => by
      rw [sh_c, sh_c]
      by_cases h : k < 1
      · rw [if_pos h, if_pos (by omega)]
      · rw [if_neg h, sh_c]
        by_cases h2 : k < n + 1
        · rw [if_pos h2, if_pos (by omega)]
        · rw [if_neg h2, if_neg (by omega)]
          congr 1
          omega
    rw [e, sh_one_mul, ih, e2]
theorem fin_sh {f : PS K} (n : Nat) (h : fin f) : fin (sh n f) := let ⟨m, hm⟩ := h; ⟨n + m, fun i hi => by rw [sh_c, if_neg (by omega)]; exact hm _ (by omega)⟩
end
end Pol
set_option Elab.async false
set_option linter.all false
set_option maxRecDepth 100000
namespace Pol
open Lean.Grind
/-! ### rows of integers -/
section
variable {K : Type} [CommRing K]
theorem ic_add (x y : Int) : ic K (x + y) = ic K x + ic K y := Ring.intCast_add x y
theorem ic_mul (x y : Int) : ic K (x * y) = ic K x * ic K y := Ring.intCast_mul x y
theorem ic_neg (x : Int) : ic K (-x) = -ic K x := Ring.intCast_neg x
theorem ic_sub (x y : Int) : ic K (x - y) = ic K x - ic K y := by
  rw [Int.sub_eq_add_neg, ic_add, ic_neg]
  grind
theorem ic_zero : ic K 0 = 0 := Ring.intCast_ofNat 0
theorem ic_one : ic K 1 = 1 := Ring.intCast_ofNat 1
def pl (K : Type) [CommRing K] (l : List Int) : PS K := ⟨fun i => ic K (l.getD i 0)⟩
theorem pl_c (l : List Int) (i : Nat) : (pl K l).c i = ic K (l.getD i 0) := rfl
theorem getD_ge {l : List Int} {i : Nat} (h : l.length ≤ i) : l.getD i 0 = 0 := by
  rw [List.getD_eq_getElem?_getD, List.getElem?_eq_none h]
  rfl
theorem dlt_pl (l : List Int) : dlt l.length (pl K l) := fun i hi => by rw [pl_c, getD_ge hi, ic_zero]
theorem fin_pl (l : List Int) : fin (pl K l) := ⟨_, dlt_pl l⟩
theorem plN : pl K [] = 0 := eq_zero (dlt_pl [])
theorem plC (x : Int) (l : List Int) : pl K (x :: l) = C (ic K x) + sh 1 (pl K l) := PS.ext fun i => by
  rw [add_c, sh_c, pl_c]
  cases i with
  | zero =>
    rw [if_pos (by omega)]
    show ic K x = ic K x + 0
    grind
  | succ i =>
    rw [if_neg (by omega)]
    show ic K (l.getD i 0) = 0 + (pl K l).c (i + 1 - 1)
    rw [pl_c]
    show _ = 0 + ic K (l.getD i 0)
    grind
/-- the integers modulo p, and no products of two others are zero -/
structure Ch (K : Type) [CommRing K] (p : Int) : Prop where
  pos : 1 < p
  iff : ∀ x y : Int, ic K x = ic K y ↔ x % p = y % p
  nz : NZD K
theorem Ch.mod {p : Int} (h : Ch K p) (x : Int) : ic K (x % p) = ic K x := (h.iff _ _).mpr (Int.emod_emod_of_dvd _ (Int.dvd_refl p))
/-- an item of a normal row -/
def In (p x : Int) : Prop := 0 ≤ x ∧ x < p
theorem Ch.ne {p x : Int} (h : Ch K p) (hx : In p x) (n : x ≠ 0) : ic K x ≠ 0 := fun e => n (by
  have e2 : ic K x = ic K 0 := e.trans ic_zero.symm
  have e3 := (h.iff _ _).mp e2
  rwa [Int.emod_eq_of_lt hx.1 hx.2, Int.zero_emod] at e3)
theorem Ch.inj {p x y : Int} (h : Ch K p) (hx : In p x) (hy : In p y) (e : ic K x = ic K y) : x = y := by
  have e3 := (h.iff _ _).mp e
  rwa [Int.emod_eq_of_lt hx.1 hx.2, Int.emod_eq_of_lt hy.1 hy.2] at e3
def nrm (p : Int) (l : List Int) : Prop := (∀ x ∈ l, In p x) ∧ (l = [] ∨ l.getD (l.length - 1) 0 ≠ 0)
theorem nrm.at {p : Int} {l : List Int} (h : nrm p l) (p0 : 0 < p) (i : Nat) : In p (l.getD i 0) := by
  by_cases e : i < l.length
  · rw [List.getD_eq_getElem?_getD, List.getElem?_eq_getElem e]
    exact h.1 _ (List.getElem_mem e)
  · rw [getD_ge (by omega)]
    exact ⟨Int.le_refl _, p0⟩
theorem nrm_len {p : Int} (h : Ch K p) {l m : List Int} (hl : nrm p l) (hm : nrm p m) (e : pl K l = pl K m) : m.length ≤ l.length := by
  by_cases z : m.length ≤ l.length
  · exact z
  · have p0 : 0 < p := by have := h.pos; omega
    rcases hm.2 with q | q
    · rw [q] at z
      exact absurd (Nat.zero_le _) z
    · have c : (pl K m).c (m.length - 1) = 0 := by
        rw [← e]
        exact dlt_pl l _ (by omega)
      exact absurd c (h.ne (hm.at p0 _) q)
theorem nrm_uniq {p : Int} (h : Ch K p) {l m : List Int} (hl : nrm p l) (hm : nrm p m) (e : pl K l = pl K m) : l = m := by
  have p0 : 0 < p := by have := h.pos; omega
  have e1 := nrm_len h hl hm e
  have e2 := nrm_len h hm hl e.symm
  refine List.ext_getElem (by omega) fun i h1 h2 => ?_
  have e3 : (pl K l).c i = (pl K m).c i := by rw [e]
  have e4 := h.inj (hl.at p0 i) (hm.at p0 i) e3
  rwa [List.getD_eq_getElem?_getD, List.getD_eq_getElem?_getD, List.getElem?_eq_getElem h1, List.getElem?_eq_getElem h2] at e4
/-! ### the zeros at the end taken away -/
def tr0 : List Int → List Int
  | [] => []
  | x :: l => match tr0 l with
    | [] => if x = 0 then [] else [x]
    | y :: t => x :: y :: t
theorem tr0_char : ∀ (l : List Int) (n : Nat), n ≤ l.length → (∀ i, n ≤ i → l.getD i 0 = 0) → (n = 0 ∨ l.getD (n - 1) 0 ≠ 0) → tr0 l = l.take n
  | [], n, h, _, _ => by
    rw [show n = 0 from Nat.le_zero.mp h]
    rfl
  | x :: l, 0, _, h2, _ => by
    have e := tr0_char l 0 (Nat.zero_le _) (fun i _ => h2 (i + 1) (Nat.zero_le _)) (.inl rfl)
    have x0 : x = 0 := h2 0 (Nat.le_refl _)
    unfold tr0
    rw [e, x0]
    rfl
  | x :: l, n + 1, h1, h2, h3 => by
    have h1' : n ≤ l.length := Nat.le_of_succ_le_succ h1
    by_cases z : n = 0
    · subst z
      have e := tr0_char l 0 (Nat.zero_le _) (fun i _ => h2 (i + 1) (by omega)) (.inl rfl)
      have x0 : x ≠ 0 := h3.resolve_left (by omega)
      unfold tr0
      rw [e]
      show (if x = 0 then [] else [x]) = [x]
      rw [if_neg x0]
    · have e := tr0_char l n h1' (fun i hi => h2 (i + 1) (by omega)) (.inr (by
        have q := h3.resolve_left (by omega)
        rwa [show n + 1 - 1 = (n - 1) + 1 by omega] at q))
      unfold tr0
      rw [e]
      cases l with
      | nil => exact absurd (show n = 0 from Nat.le_zero.mp h1') z
      | cons y t =>
        cases n with
        | zero => exact absurd rfl z
        | succ n => rfl
theorem tr0_spec (l : List Int) : ∃ n, n ≤ l.length ∧ (∀ i, n ≤ i → l.getD i 0 = 0) ∧ (n = 0 ∨ l.getD (n - 1) 0 ≠ 0) ∧ tr0 l = l.take n := by
  suffices h : ∀ n, n ≤ l.length → (∀ i, n ≤ i → l.getD i 0 = 0) → ∃ n, n ≤ l.length ∧ (∀ i, n ≤ i → l.getD i 0 = 0) ∧ (n = 0 ∨ l.getD (n - 1) 0 ≠ 0) by
    obtain ⟨n, h1, h2, h3⟩ := h l.length (Nat.le_refl _) fun i hi => getD_ge hi
    exact ⟨n, h1, h2, h3, tr0_char l n h1 h2 h3⟩
  intro n
  induction n with
  | zero => exact fun h1 h2 => ⟨0, h1, h2, .inl rfl⟩
  | succ n ih =>
    intro h1 h2
    by_cases z : l.getD n 0 = 0
    · refine ih (by omega) fun i hi => ?_
      by_cases e : i = n
      · rw [e]
        exact z
      · exact h2 i (by omega)
    · exact ⟨n + 1, h1, h2, .inr z⟩
theorem getD_take {l : List Int} {n i : Nat} (h : i < n) : (l.take n).getD i 0 = l.getD i 0 := by
  rw [List.getD_eq_getElem?_getD, List.getD_eq_getElem?_getD, List.getElem?_take_of_lt h]
theorem tr0_getD (l : List Int) (i : Nat) : (tr0 l).getD i 0 = l.getD i 0 := by
  obtain ⟨n, h1, h2, _, e⟩ := tr0_spec l
  rw [e]
  by_cases z : i < n
  · exact getD_take z
  · rw [h2 i (by omega), getD_ge (by rw [List.length_take]; omega)]
theorem tr0_len (l : List Int) : (tr0 l).length ≤ l.length := by
  obtain ⟨n, h1, _, _, e⟩ := tr0_spec l
  rw [e, List.length_take]
  omega
theorem tr0_nrm {p : Int} {l : List Int} (h : ∀ x ∈ l, In p x) : nrm p (tr0 l) := by
  obtain ⟨n, h1, h2, h3, e⟩ := tr0_spec l
  rw [e]
  refine ⟨fun x hx => h x (List.mem_of_mem_take hx), ?_⟩
  rcases h3 with z | z
  · left
    rw [z]
    rfl
  · by_cases n0 : n = 0
    · left
      rw [n0]
      rfl
    · right
      rw [List.length_take, Nat.min_eq_left h1, getD_take (by omega)]
      exact z
def tr (p : Int) (l : List Int) : List Int := tr0 (l.map (· % p))
theorem getD_map (p : Int) (l : List Int) (i : Nat) : (l.map (· % p)).getD i 0 = l.getD i 0 % p := by
  rw [List.getD_eq_getElem?_getD, List.getD_eq_getElem?_getD, List.getElem?_map]
  cases l[i]? with
  | none => simp
  | some x => rfl
theorem tr_pl {p : Int} (h : Ch K p) (l : List Int) : pl K (tr p l) = pl K l := PS.ext fun i => by
  rw [pl_c, pl_c, tr, tr0_getD, getD_map, h.mod]
theorem tr_nrm {p : Int} (p0 : 0 < p) (l : List Int) : nrm p (tr p l) := tr0_nrm fun x hx => by
  obtain ⟨y, _, e⟩ := List.mem_map.mp hx
  rw [← e]
  exact ⟨Int.emod_nonneg _ (by omega), Int.emod_lt_of_pos _ p0⟩
theorem tr_len (p : Int) (l : List Int) : (tr p l).length ≤ l.length := by
  have e := tr0_len (l.map (· % p))
  rwa [List.length_map] at e
theorem tr_of {p : Int} (h : Ch K p) {l m : List Int} (hm : nrm p m) (e : pl K l = pl K m) : tr p l = m :=
  nrm_uniq h (tr_nrm (by have := h.pos; omega) l) hm ((tr_pl h l).trans e)
/-- a normal row's length is told by its coefficients -/
theorem nrm_dlt {p : Int} (h : Ch K p) {l : List Int} (hl : nrm p l) {d : Nat} (hd : dlt d (pl K l)) : l.length ≤ d := by
  by_cases z : l.length ≤ d
  · exact z
  · rcases hl.2 with q | q
    · rw [q]
      exact Nat.zero_le _
    · exact absurd (hd (l.length - 1) (by omega)) (h.ne (hl.at (by have := h.pos; omega) _) q)
end
/-! ### lists by places -/
section
open PySem PySem.Spec PyProof.Rows L2 Mir
theorem getL_int {l : List Int} {i : Int} (h0 : 0 ≤ i) (h1 : i < l.length) : getL l i = .ok (l.getD i.toNat 0) := by
  unfold getL L2.atI L2.ixN
  rw [if_pos h0, if_pos h1]
  rw [Option.bind_some, List.getD_eq_getElem?_getD, List.getElem?_eq_getElem (show i.toNat < l.length by omega)]
  rfl
theorem getL_last {l : List Int} (h : l ≠ []) : getL l (-1) = .ok (l.getD (l.length - 1) 0) := by
  have hl : 0 < l.length := List.length_pos_iff.mpr h
  unfold getL L2.atI L2.ixN
  rw [if_neg (by omega), if_pos (by omega)]
  rw [Option.bind_some, List.getD_eq_getElem?_getD, show (-1 + (l.length : Int)).toNat = l.length - 1 by omega, List.getElem?_eq_getElem (show l.length - 1 < l.length by omega)]
  rfl
theorem setL_int {l : List Int} {i x : Int} (h0 : 0 ≤ i) (h1 : i < l.length) : setL l i x = .ok (l.set i.toNat x) := by
  unfold setL L2.ixN
  rw [if_pos h0, if_pos h1]
theorem popL_ok {l : List Int} (h : l ≠ []) : popL l = .ok (l.getD (l.length - 1) 0, l.dropLast) := by
  have hl : 0 < l.length := List.length_pos_iff.mpr h
  unfold popL
  rw [List.getD_eq_getElem?_getD, List.getElem?_eq_getElem (by omega)]
  rfl
theorem cutT_take (l : List Int) (n : Nat) (h : n ≤ l.length) : cutT l none (some (n : Int)) = l.take n := by
  unfold cutT
  rw [HT.sIx_none, HT.sIx_nat, List.drop_zero, Nat.sub_zero, Nat.min_eq_left h]
theorem getD_set (l : List Int) (j : Nat) (x : Int) (i : Nat) (h : j < l.length) : (l.set j x).getD i 0 = if i = j then x else l.getD i 0 := by
  rw [List.getD_eq_getElem?_getD, List.getD_eq_getElem?_getD, List.getElem?_set]
  by_cases e : j = i
  · rw [if_pos e, if_pos h, if_pos e.symm]
    rfl
  · rw [if_neg e, if_neg (Ne.symm e)]
theorem fold_map {α β : Type} {f : List β → α → R (List β)} {g : α → β} : ∀ (xs : List α) (s : List β), (∀ s x, s.length < 1000 → x ∈ xs → f s x = .ok (s ++ [g x])) → s.length + xs.length ≤ 1000 → foldR f s xs = .ok (s ++ xs.map g)
  | [], s, _, _ => by
    rw [List.map_nil, List.append_nil]
    rfl
  | x :: xs, s, h, hl => by
    have hl' : s.length + (xs.length + 1) ≤ 1000 := hl
    show (f s x).bind _ = _
    rw [h s x (by omega) List.mem_cons_self, R.bind_ok, fold_map xs _ (fun s y hs hy => h s y hs (List.mem_cons_of_mem _ hy)) (by rw [List.length_append]; show s.length + 1 + _ ≤ _; omega), List.map_cons, List.append_assoc]
    rfl
theorem lenLt_small {α : Type} {l : List α} (h : l.length < 1000) : lenLt l := L2.small1000 (by omega)
theorem lenOk_small {α : Type} {l : List α} (h : l.length ≤ 1000) : lenOk l := Nat.le_of_lt (L2.small1000 h)
theorem small_mul {x y : Int} (hx : x.natAbs ≤ 100000) : L2.CMul x y := .inl ⟨by omega, by omega⟩
end
end Pol
set_option Elab.async false
set_option linter.all false
set_option maxRecDepth 100000
namespace Pf
open PySem PySem.Spec PyProof.Rows L2 Mir Pol

theorem m_without_end_ok (l : List Int) (h : l.length ≤ 1000) : m_without_end l 0 = .ok (tr0 l) := by
  obtain ⟨s, e, ⟨i1, i2, i3⟩, c⟩ := whileR_inv (c := m_without_end_b1 l 0) (f := m_without_end_b2) (fun s : Int => 0 ≤ s ∧ s ≤ l.length ∧ ∀ i : Nat, s.toNat ≤ i → l.getD i 0 = 0) (fun s => s.toNat) (fun s hs => by
    obtain ⟨h1, h2, h3⟩ := hs
    by_cases z : 0 < s
    · have g := getL_int (l := l) (i := s - 1) (by omega) (by omega)
      by_cases q : l.getD (s - 1).toNat 0 = 0
      · refine .inl ⟨?_, s - 1, rfl, ⟨by omega, by omega, fun i hi => ?_⟩, by omega⟩
        · unfold m_without_end_b1 andR
          rw [decide_eq_true z, R.bind_ok, if_pos rfl, g, R.bind_ok, decide_eq_true q, R.bind_ok]
        · by_cases e : i = (s - 1).toNat
          · rw [e]
            exact q
          · exact h3 i (by omega)
      · right
        unfold m_without_end_b1 andR
        rw [decide_eq_true z, R.bind_ok, if_pos rfl, g, R.bind_ok, decide_eq_false q, R.bind_ok]
    · right
      unfold m_without_end_b1 andR
      rw [decide_eq_false z, R.bind_ok, if_neg (by decide), R.bind_ok]) 100000 (l.length : Int) ⟨by omega, by omega, fun i hi => getD_ge (by omega)⟩ (by show (l.length : Int).toNat < 100000; omega)
  unfold m_without_end
  rw [e, R.bind_ok]
  have es : s = ((s.toNat : Nat) : Int) := by omega
  have last : s.toNat = 0 ∨ l.getD (s.toNat - 1) 0 ≠ 0 := by
    by_cases z : 0 < s
    · right
      intro q
      have g := getL_int (l := l) (i := s - 1) (by omega) (by omega)
      rw [show (s - 1).toNat = s.toNat - 1 by omega, q] at g
      unfold m_without_end_b1 andR at c
      rw [decide_eq_true z, R.bind_ok, if_pos rfl, g, R.bind_ok, R.bind_ok] at c
      exact absurd (R.ok.inj c) (by decide)
    · left
      omega
  rw [es, cutT_take l s.toNat (by omega), ← tr0_char l s.toNat (by omega) (fun i hi => i3 i hi) last]

theorem m_trimmed_ok (l : List Int) (p : Int) (p0 : 0 < p) (h : l.length ≤ 900) : m_trimmed l p = .ok (tr p l) := by
  have e := fold_map (f := m_trimmed_b1 p) (g := (· % p)) l [] (fun s x hs _ => by
    unfold m_trimmed_b1
    rw [grd_ok p0, grd_ok (lenLt_small hs)]) (by show 0 + l.length ≤ 1000; omega)
  unfold m_trimmed
  rw [e, R.bind_ok, List.nil_append, m_without_end_ok _ (by rw [List.length_map]; omega), R.bind_ok]
  rfl

theorem m_trimmed_2_ok (l : List Int) (p : Int) (p0 : 0 < p) (h : l.length ≤ 900) : m_trimmed_2 l p = .ok (tr p l) := by
  have e := fold_map (f := m_trimmed_2_b1 p) (g := (· % p)) l [] (fun s x hs _ => by
    unfold m_trimmed_2_b1
    rw [grd_ok p0, grd_ok (lenLt_small hs)]) (by show 0 + l.length ≤ 1000; omega)
  unfold m_trimmed_2
  rw [e, R.bind_ok, List.nil_append, m_without_end_ok _ (by rw [List.length_map]; omega), R.bind_ok]
  rfl

theorem m_trimmed_3_ok (l : List Int) (p : Int) (p0 : 0 < p) (h : l.length ≤ 900) : m_trimmed_3 l p = .ok (tr p l) := by
  have e := fold_map (f := m_trimmed_3_b1 p) (g := (· % p)) l [] (fun s x hs _ => by
    unfold m_trimmed_3_b1
    rw [grd_ok p0, grd_ok (lenLt_small hs)]) (by show 0 + l.length ≤ 1000; omega)
  unfold m_trimmed_3
  rw [e, R.bind_ok, List.nil_append, m_without_end_ok _ (by rw [List.length_map]; omega), R.bind_ok]
  rfl

theorem m__law_trim_ok (l : List Int) (p : Int) (p0 : 0 < p) (h : l.length ≤ 900) : m__law_trim l p = .ok (tr p l) := by
  have e := fold_map (f := m__law_trim_b1 p) (g := (· % p)) l [] (fun s x hs _ => by
    unfold m__law_trim_b1
    rw [grd_ok p0, grd_ok (lenLt_small hs)]) (by show 0 + l.length ≤ 1000; omega)
  unfold m__law_trim
  rw [e, R.bind_ok, List.nil_append]
  unfold tr
  have hm : (l.map (· % p)).length ≤ 900 := by rw [List.length_map]; omega
  generalize l.map (· % p) = m at hm
  have step : ∀ s : List Int, s ≠ [] → s.getD (s.length - 1) 0 = 0 → m__law_trim_b2 s = .ok true := fun s z q => by
    have hl : 0 < s.length := List.length_pos_iff.mpr z
    unfold m__law_trim_b2 andR
    rw [decide_eq_true (show (0 : Int) < (s.length : Int) by omega), R.bind_ok, if_pos rfl, getL_int (by omega) (by omega), show ((s.length : Int) - 1).toNat = s.length - 1 by omega, q, R.bind_ok, R.bind_ok]
    rfl
  obtain ⟨s, e2, ⟨k, i1, i2, i3⟩, c⟩ := whileR_inv (c := m__law_trim_b2) (f := m__law_trim_b3) (fun s : List Int => ∃ k, k ≤ m.length ∧ s = m.take k ∧ ∀ i, k ≤ i → m.getD i 0 = 0) (fun s => s.length) (fun s hs => by
    obtain ⟨k, h1, h2, h3⟩ := hs
    have hk : s.length = k := by rw [h2, List.length_take]; omega
    by_cases z : s = []
    · right
      rw [z]
      rfl
    · have hl : 0 < s.length := List.length_pos_iff.mpr z
      by_cases q : s.getD (s.length - 1) 0 = 0
      · refine .inl ⟨step s z q, s.dropLast, ?_, ⟨k - 1, by omega, ?_, fun i hi => ?_⟩, ?_⟩
        · unfold m__law_trim_b3
          rw [popL_ok z, R.bind_ok]
        · rw [List.dropLast_eq_take, hk, h2, List.take_take, Nat.min_eq_left (by omega)]
        · by_cases e : i = k - 1
          · rw [e, ← getD_take (n := k) (by omega), ← h2, ← hk]
            exact q
          · exact h3 i (by omega)
        · rw [List.length_dropLast]
          omega
      · right
        unfold m__law_trim_b2 andR
        rw [decide_eq_true (show (0 : Int) < (s.length : Int) by omega), R.bind_ok, if_pos rfl, getL_int (by omega) (by omega), show ((s.length : Int) - 1).toNat = s.length - 1 by omega, R.bind_ok, decide_eq_false q, R.bind_ok]) 100000 m ⟨m.length, Nat.le_refl _, (List.take_length).symm, fun i hi => getD_ge hi⟩ (by show m.length < 100000; omega)
  rw [e2, R.bind_ok]
  have hk : s.length = k := by rw [i2, List.length_take]; omega
  have last : k = 0 ∨ m.getD (k - 1) 0 ≠ 0 := by
    by_cases z : k = 0
    · exact .inl z
    · right
      intro q
      have q' : s.getD (s.length - 1) 0 = 0 := by rw [hk, i2, getD_take (by omega)]; exact q
      rw [step s (by intro e; rw [e] at hk; exact z hk.symm) q'] at c
      exact absurd (R.ok.inj c) (by decide)
  rw [i2, tr0_char m k i1 i3 last]

theorem m__law_trim_2_ok (l : List Int) (p : Int) (p0 : 0 < p) (h : l.length ≤ 900) : m__law_trim_2 l p = .ok (tr p l) := by
  have e := fold_map (f := m__law_trim_2_b1 p) (g := (· % p)) l [] (fun s x hs _ => by
    unfold m__law_trim_2_b1
    rw [grd_ok p0, grd_ok (lenLt_small hs)]) (by show 0 + l.length ≤ 1000; omega)
  unfold m__law_trim_2
  rw [e, R.bind_ok, List.nil_append]
  unfold tr
  have hm : (l.map (· % p)).length ≤ 900 := by rw [List.length_map]; omega
  generalize l.map (· % p) = m at hm
  have step : ∀ s : List Int, s ≠ [] → s.getD (s.length - 1) 0 = 0 → m__law_trim_2_b2 s = .ok true := fun s z q => by
    have hl : 0 < s.length := List.length_pos_iff.mpr z
    unfold m__law_trim_2_b2 andR
    rw [decide_eq_true (show (0 : Int) < (s.length : Int) by omega), R.bind_ok, if_pos rfl, getL_int (by omega) (by omega), show ((s.length : Int) - 1).toNat = s.length - 1 by omega, q, R.bind_ok, R.bind_ok]
    rfl
  obtain ⟨s, e2, ⟨k, i1, i2, i3⟩, c⟩ := whileR_inv (c := m__law_trim_2_b2) (f := m__law_trim_2_b3) (fun s : List Int => ∃ k, k ≤ m.length ∧ s = m.take k ∧ ∀ i, k ≤ i → m.getD i 0 = 0) (fun s => s.length) (fun s hs => by
    obtain ⟨k, h1, h2, h3⟩ := hs
    have hk : s.length = k := by rw [h2, List.length_take]; omega
    by_cases z : s = []
    · right
      rw [z]
      rfl
    · have hl : 0 < s.length := List.length_pos_iff.mpr z
      by_cases q : s.getD (s.length - 1) 0 = 0
      · refine .inl ⟨step s z q, s.dropLast, ?_, ⟨k - 1, by omega, ?_, fun i hi => ?_⟩, ?_⟩
        · unfold m__law_trim_2_b3
          rw [popL_ok z, R.bind_ok]
        · rw [List.dropLast_eq_take, hk, h2, List.take_take, Nat.min_eq_left (by omega)]
        · by_cases e : i = k - 1
          · rw [e, ← getD_take (n := k) (by omega), ← h2, ← hk]
            exact q
          · exact h3 i (by omega)
        · rw [List.length_dropLast]
          omega
      · right
        unfold m__law_trim_2_b2 andR
        rw [decide_eq_true (show (0 : Int) < (s.length : Int) by omega), R.bind_ok, if_pos rfl, getL_int (by omega) (by omega), show ((s.length : Int) - 1).toNat = s.length - 1 by omega, R.bind_ok, decide_eq_false q, R.bind_ok]) 100000 m ⟨m.length, Nat.le_refl _, (List.take_length).symm, fun i hi => getD_ge hi⟩ (by show m.length < 100000; omega)
  rw [e2, R.bind_ok]
  have hk : s.length = k := by rw [i2, List.length_take]; omega
  have last : k = 0 ∨ m.getD (k - 1) 0 ≠ 0 := by
    by_cases z : k = 0
    · exact .inl z
    · right
      intro q
      have q' : s.getD (s.length - 1) 0 = 0 := by rw [hk, i2, getD_take (by omega)]; exact q
      rw [step s (by intro e; rw [e] at hk; exact z hk.symm) q'] at c
      exact absurd (R.ok.inj c) (by decide)
  rw [i2, tr0_char m k i1 i3 last]

def pad (l : List Int) (n : Nat) : List Int := l ++ List.replicate (n - l.length) 0
theorem repL_one (x k : Int) : repL [x] k = List.replicate k.toNat x := by
  unfold repL
  induction k.toNat with
  | zero => rfl
  | succ n ih => rw [List.replicate_succ, List.replicate_succ, List.flatten_cons, ih]; rfl
theorem rep_ok {k : Int} (h0 : -1000 ≤ k) (h1 : k ≤ 1000) (x : Int) : repOk [x] k := ⟨h0, h1, by show 1 ≤ 1000; omega, by show 1 * k.toNat ≤ 1000000; omega⟩

theorem m_filled_up_ok (l : List Int) (n : Nat) (hl : l.length ≤ 400) (hn : n ≤ 400) : m_filled_up l (n : Int) 0 = .ok (pad l n) := by
  unfold m_filled_up
  have e : ((n : Int) - (l.length : Int)).toNat = n - l.length := by omega
  have c : l ++ repL [0] ((n : Int) - (l.length : Int)) = pad l n := by rw [repL_one, e]; rfl
  rw [grd_ok (show ([(0 : Int)]).isEmpty = false from rfl), grd_ok (rep_ok (by omega) (by omega) _), c, grd_ok (lenOk_small (by unfold pad; rw [List.length_append, List.length_replicate]; omega))]

theorem m_filled_up_2_ok (l : List Int) (n : Nat) (hl : l.length ≤ 400) (hn : n ≤ 400) : m_filled_up_2 l (n : Int) 0 = .ok (pad l n) := by
  unfold m_filled_up_2
  have e : ((n : Int) - (l.length : Int)).toNat = n - l.length := by omega
  have c : l ++ repL [0] ((n : Int) - (l.length : Int)) = pad l n := by rw [repL_one, e]; rfl
  rw [grd_ok (show ([(0 : Int)]).isEmpty = false from rfl), grd_ok (rep_ok (by omega) (by omega) _), c, grd_ok (lenOk_small (by unfold pad; rw [List.length_append, List.length_replicate]; omega))]

theorem m_add_rows_ok (a b : List Int) (p : Int) (p0 : 0 < p) (ha : a.length ≤ 400) (hb : b.length ≤ 400) : m_add_rows a b p = .ok (tr p (((pad a (max a.length b.length)).zip (pad b (max a.length b.length))).map fun x => x.1 + x.2)) := by
  have m : pmax (a.length : Int) (b.length : Int) = ((max a.length b.length : Nat) : Int) := by unfold pmax; split <;> omega
  have hm : max a.length b.length ≤ 400 := by omega
  have hz : ((pad a (max a.length b.length)).zip (pad b (max a.length b.length))).length ≤ 400 := by
    rw [List.length_zip]
    unfold pad
    rw [List.length_append, List.length_replicate, List.length_append, List.length_replicate]
    omega
  unfold m_add_rows
  rw [m, m_filled_up_ok a _ ha hm, R.bind_ok, m_filled_up_ok b _ hb hm, R.bind_ok, fold_map (f := m_add_rows_b1) (g := fun x => x.1 + x.2) _ [] (fun s x hs _ => by unfold m_add_rows_b1; rw [grd_ok (lenLt_small hs)]) (by show 0 + _ ≤ 1000; omega), R.bind_ok, List.nil_append, m_trimmed_3_ok _ _ p0 (by rw [List.length_map]; omega), R.bind_ok]

theorem m_add_rows_2_ok (a b : List Int) (p : Int) (p0 : 0 < p) (ha : a.length ≤ 400) (hb : b.length ≤ 400) : m_add_rows_2 a b p = .ok (tr p (((pad a (max a.length b.length)).zip (pad b (max a.length b.length))).map fun x => x.1 + x.2)) := by
  have m : pmax (a.length : Int) (b.length : Int) = ((max a.length b.length : Nat) : Int) := by unfold pmax; split <;> omega
  have hm : max a.length b.length ≤ 400 := by omega
  have hz : ((pad a (max a.length b.length)).zip (pad b (max a.length b.length))).length ≤ 400 := by
    rw [List.length_zip]
    unfold pad
    rw [List.length_append, List.length_replicate, List.length_append, List.length_replicate]
    omega
  unfold m_add_rows_2
  rw [m, m_filled_up_ok a _ ha hm, R.bind_ok, m_filled_up_2_ok b _ hb hm, R.bind_ok, fold_map (f := m_add_rows_2_b1) (g := fun x => x.1 + x.2) _ [] (fun s x hs _ => by unfold m_add_rows_2_b1; rw [grd_ok (lenLt_small hs)]) (by show 0 + _ ≤ 1000; omega), R.bind_ok, List.nil_append, m_trimmed_3_ok _ _ p0 (by rw [List.length_map]; omega), R.bind_ok]

section
open Lean.Grind
variable {K : Type} [CommRing K]
theorem C_mul_C (a b : K) : C a * C b = C (a * b) := PS.ext fun i => by
  rw [C_mul_c]
  show a * cst b i = cst (a * b) i
  unfold cst
  split
  · rfl
  · grind
theorem C_sh (a : K) (n : Nat) (f : PS K) : C a * sh n f = sh n (C a * f) := by
  rw [CommSemiring.mul_comm, sh_mul, CommSemiring.mul_comm]
theorem pl_set (l : List Int) (k : Nat) (w : Int) (h : k < l.length) : pl K (l.set k (l.getD k 0 + w)) = pl K l + sh k (C (ic K w)) := PS.ext fun i => by
  rw [add_c, pl_c, pl_c, sh_c, getD_set _ _ _ _ h]
  by_cases e : i = k
  · rw [if_pos e, e, if_neg (by omega), Nat.sub_self, ic_add]
    rfl
  · rw [if_neg e]
    by_cases e2 : i < k
    · rw [if_pos e2]
      grind
    · rw [if_neg e2]
      show _ = _ + cst (ic K w) (i - k)
      unfold cst
      rw [if_neg (by omega)]
      grind
theorem pl_step (n : Nat) (x y : Int) (bs : List Int) : sh n (C (ic K x) * pl K (y :: bs)) = sh n (C (ic K (x * y))) + sh (n + 1) (C (ic K x) * pl K bs) := by
  rw [plC, Semiring.left_distrib, C_mul_C, ic_mul, C_sh, sh_add, sh_sh]
theorem pl_outer (n : Nat) (x : Int) (as : List Int) (g : PS K) : sh n (pl K (x :: as) * g) = sh n (C (ic K x) * g) + sh (n + 1) (pl K as * g) := by
  rw [plC, Semiring.right_distrib, sh_mul 1, sh_add, sh_sh]
theorem pl_replicate (n : Nat) : pl K (List.replicate n 0) = 0 := PS.ext fun i => by
  rw [pl_c, zero_c, List.getD_eq_getElem?_getD, List.getElem?_replicate]
  split <;> exact ic_zero
theorem pl_pad (l : List Int) (n : Nat) : pl K (pad l n) = pl K l := PS.ext fun i => by
  rw [pl_c, pl_c]
  congr 1
  unfold pad
  rw [List.getD_eq_getElem?_getD, List.getD_eq_getElem?_getD]
  by_cases h : i < l.length
  · rw [List.getElem?_append_left h]
  · rw [List.getElem?_append_right (by omega), List.getElem?_replicate, List.getElem?_eq_none (by omega)]
    split <;> rfl
theorem pad_len (l : List Int) (n : Nat) (h : l.length ≤ n) : (pad l n).length = n := by
  unfold pad
  rw [List.length_append, List.length_replicate]
  omega
theorem zip_getD (f : Int × Int → Int) (f0 : f (0, 0) = 0) : ∀ (a b : List Int) (i : Nat), a.length = b.length → ((a.zip b).map f).getD i 0 = f (a.getD i 0, b.getD i 0)
  | [], [], i, _ => by simpa using f0.symm
  | x :: a, y :: b, 0, _ => rfl
  | x :: a, y :: b, i + 1, h => zip_getD f f0 a b i (Nat.succ.inj h)
theorem pl_zip_add (a b : List Int) (h : a.length = b.length) : pl K ((a.zip b).map fun x => x.1 + x.2) = pl K a + pl K b := PS.ext fun i => by
  rw [pl_c, zip_getD _ rfl _ _ _ h, ic_add]
  rfl
theorem pl_add (a b : List Int) : pl K (((pad a (max a.length b.length)).zip (pad b (max a.length b.length))).map fun x => x.1 + x.2) = pl K a + pl K b := by
  rw [pl_zip_add _ _ (by rw [pad_len _ _ (by omega), pad_len _ _ (by omega)]), pl_pad, pl_pad]
end

section
open Lean.Grind
theorem m_multiply_rows_inner (K : Type) [CommRing K] (i0 : Nat) (x : Int) (hx : x.natAbs ≤ 1000) : ∀ (bs : List Int) (j0 : Nat) (P : List Int), i0 + j0 + bs.length ≤ P.length → ∃ P', foldR (m_multiply_rows_b1 ((i0 : Int), x)) P ((rng (j0 : Int) bs.length).zip bs) = .ok P' ∧ P'.length = P.length ∧ pl K P' = pl K P + sh (i0 + j0) (C (ic K x) * pl K bs)
  | [], j0, P, _ => ⟨P, rfl, rfl, by
    rw [plN, show C (ic K x) * (0 : PS K) = 0 by grind]
    exact PS.ext fun i => by rw [add_c, sh_c, zero_c]; split <;> grind⟩
  | y :: bs, j0, P, h => by
    have h' : i0 + j0 + (bs.length + 1) ≤ P.length := h
    have e : m_multiply_rows_b1 ((i0 : Int), x) P ((j0 : Int), y) = .ok (P.set (i0 + j0) (P.getD (i0 + j0) 0 + x * y)) := by
      unfold m_multiply_rows_b1
      dsimp only
      rw [getL_int (by omega) (by omega), R.bind_ok, grd_ok (small_mul (by omega)), setL_int (by omega) (by omega), R.bind_ok, show ((i0 : Int) + (j0 : Int)).toNat = i0 + j0 by omega]
    obtain ⟨P', e1, e2, e3⟩ := m_multiply_rows_inner K i0 x hx bs (j0 + 1) (P.set (i0 + j0) (P.getD (i0 + j0) 0 + x * y)) (by rw [List.length_set]; omega)
    refine ⟨P', ?_, by rw [e2, List.length_set], ?_⟩
    · show (m_multiply_rows_b1 ((i0 : Int), x) P ((j0 : Int), y)).bind _ = _
      rw [e, R.bind_ok]
      exact e1
    · rw [e3, pl_set _ _ _ (by omega), pl_step]
      show _ + sh (i0 + (j0 + 1)) _ = _
      rw [← Nat.add_assoc]
      grind
theorem m_multiply_rows_outer (K : Type) [CommRing K] (b : List Int) : ∀ (as : List Int) (i0 : Nat) (P : List Int), (∀ x ∈ as, x.natAbs ≤ 1000) → i0 + as.length + b.length ≤ P.length + 1 → (as = [] ∨ i0 + as.length + b.length ≤ P.length + 1) → i0 + as.length + b.length ≤ P.length → ∃ P', foldR (m_multiply_rows_b2 b) P ((rng (i0 : Int) as.length).zip as) = .ok P' ∧ P'.length = P.length ∧ pl K P' = pl K P + sh i0 (pl K as * pl K b)
  | [], i0, P, _, _, _, _ => ⟨P, rfl, rfl, by
    rw [plN, show (0 : PS K) * pl K b = 0 by grind]
    exact PS.ext fun i => by rw [add_c, sh_c, zero_c]; split <;> grind⟩
  | x :: as, i0, P, hx, h0, hh, h => by
    have h' : i0 + (as.length + 1) + b.length ≤ P.length := h
    obtain ⟨P1, f1, f2, f3⟩ := m_multiply_rows_inner K i0 x (hx x List.mem_cons_self) b 0 P (by omega)
    have e : m_multiply_rows_b2 b P ((i0 : Int), x) = .ok P1 := by
      unfold m_multiply_rows_b2 enumF
      have f1' : foldR (m_multiply_rows_b1 ((i0 : Int), x)) P ((rng 0 b.length).zip b) = .ok P1 := f1
      rw [f1', R.bind_ok]
    obtain ⟨P', e1, e2, e3⟩ := m_multiply_rows_outer K b as (i0 + 1) P1 (fun y hy => hx y (List.mem_cons_of_mem _ hy)) (by omega) (.inr (by omega)) (by omega)
    refine ⟨P', ?_, by omega, ?_⟩
    · show (m_multiply_rows_b2 b P ((i0 : Int), x)).bind _ = _
      rw [e, R.bind_ok]
      exact e1
    · rw [e3, f3, pl_outer, Nat.add_zero]
      grind
theorem m_multiply_rows_ok {K : Type} [CommRing K] {p : Int} (H : Ch K p) (a b : List Int) (ha : ∀ x ∈ a, x.natAbs ≤ 1000) (la : a.length ≤ 400) (lb : b.length ≤ 400) : ∃ l, m_multiply_rows a b p = .ok l ∧ nrm p l ∧ pl K l = pl K a * pl K b ∧ l.length ≤ a.length + b.length := by
  have p0 : 0 < p := by have := H.pos; omega
  have hr : ((a.length : Int) + (b.length : Int)).toNat = a.length + b.length := by omega
  obtain ⟨P, e1, e2, e3⟩ := m_multiply_rows_outer K b a 0 (List.replicate (a.length + b.length) 0) ha (by rw [List.length_replicate]; omega) (.inr (by rw [List.length_replicate]; omega)) (by rw [List.length_replicate]; omega)
  rw [List.length_replicate] at e2
  refine ⟨tr p P, ?_, tr_nrm p0 _, ?_, by rw [← e2]; exact tr_len p P⟩
  · unfold m_multiply_rows
    rw [grd_ok (rep_ok (by omega) (by omega) _), repL_one, hr]
    have e1' : foldR (m_multiply_rows_b2 b) (List.replicate (a.length + b.length) 0) (enumF a) = .ok P := e1
    rw [e1', R.bind_ok, m_trimmed_3_ok _ _ p0 (by omega), R.bind_ok]
  · rw [tr_pl H, e3, pl_replicate, sh_zero]
    grind
end

section
open Lean.Grind
theorem m__law_times_inner (K : Type) [CommRing K] (a b : List Int) (i0 : Nat) (hi : i0 < a.length) (hx : (a.getD i0 0).natAbs ≤ 1000) : ∀ (bs : List Int) (j0 : Nat) (P : List Int), (∀ k, k < bs.length → b.getD (j0 + k) 0 = bs.getD k 0) → j0 + bs.length ≤ b.length → i0 + j0 + bs.length ≤ P.length → ∃ P', foldR (m__law_times_b2 a b (i0 : Int)) P (rng (j0 : Int) bs.length) = .ok P' ∧ P'.length = P.length ∧ pl K P' = pl K P + sh (i0 + j0) (C (ic K (a.getD i0 0)) * pl K bs)
  | [], j0, P, _, _, _ => ⟨P, rfl, rfl, by
    rw [plN, show C (ic K (a.getD i0 0)) * (0 : PS K) = 0 by grind]
    exact PS.ext fun i => by rw [add_c, sh_c, zero_c]; split <;> grind⟩
  | y :: bs, j0, P, hb, hl, h => by
    have h' : i0 + j0 + (bs.length + 1) ≤ P.length := h
    have hl' : j0 + (bs.length + 1) ≤ b.length := hl
    have y0 : b.getD j0 0 = y := hb 0 (by show 0 < bs.length + 1; omega)
    have e : m__law_times_b2 a b (i0 : Int) P (j0 : Int) = .ok (P.set (i0 + j0) (P.getD (i0 + j0) 0 + a.getD i0 0 * y)) := by
      unfold m__law_times_b2
      rw [getL_int (l := P) (by omega) (by omega), R.bind_ok, getL_int (l := a) (by omega) (by omega), R.bind_ok, getL_int (l := b) (by omega) (by omega), R.bind_ok]
      rw [show ((i0 : Int) + (j0 : Int)).toNat = i0 + j0 by omega, show (i0 : Int).toNat = i0 by omega, show (j0 : Int).toNat = j0 by omega, y0, grd_ok (small_mul (by omega)), setL_int (by omega) (by omega), R.bind_ok, show ((i0 : Int) + (j0 : Int)).toNat = i0 + j0 by omega]
    obtain ⟨P', e1, e2, e3⟩ := m__law_times_inner K a b i0 hi hx bs (j0 + 1) (P.set (i0 + j0) (P.getD (i0 + j0) 0 + a.getD i0 0 * y)) (fun k hk => by
      have q := hb (k + 1) (by show k + 1 < bs.length + 1; omega)
      rw [show j0 + 1 + k = j0 + (k + 1) by omega, q]
      rfl) (by omega) (by rw [List.length_set]; omega)
    refine ⟨P', ?_, by rw [e2, List.length_set], ?_⟩
    · show (m__law_times_b2 a b (i0 : Int) P (j0 : Int)).bind _ = _
      rw [e, R.bind_ok]
      exact e1
    · rw [e3, pl_set _ _ _ (by omega), pl_step, ← Nat.add_assoc]
      grind
theorem m__law_times_outer (K : Type) [CommRing K] (a b : List Int) (hb : b.length ≤ 400) : ∀ (as : List Int) (i0 : Nat) (P : List Int), (∀ k, k < as.length → a.getD (i0 + k) 0 = as.getD k 0) → i0 + as.length ≤ a.length → (∀ x ∈ a, x.natAbs ≤ 1000) → i0 + as.length + b.length ≤ P.length → ∃ P', foldR (m__law_times_b3 a b) P (rng (i0 : Int) as.length) = .ok P' ∧ P'.length = P.length ∧ pl K P' = pl K P + sh i0 (pl K as * pl K b)
  | [], i0, P, _, _, _, _ => ⟨P, rfl, rfl, by
    rw [plN, show (0 : PS K) * pl K b = 0 by grind]
    exact PS.ext fun i => by rw [add_c, sh_c, zero_c]; split <;> grind⟩
  | x :: as, i0, P, ha, hl, hx, h => by
    have h' : i0 + (as.length + 1) + b.length ≤ P.length := h
    have hl' : i0 + (as.length + 1) ≤ a.length := hl
    have x0 : a.getD i0 0 = x := ha 0 (by show 0 < as.length + 1; omega)
    have xs : (a.getD i0 0).natAbs ≤ 1000 := by
      rw [List.getD_eq_getElem?_getD, List.getElem?_eq_getElem (show i0 < a.length by omega)]
      exact hx _ (List.getElem_mem _)
    obtain ⟨P1, f1, f2, f3⟩ := m__law_times_inner K a b i0 (by omega) xs b 0 P (fun k _ => by rw [Nat.zero_add]) (by omega) (by omega)
    have e : m__law_times_b3 a b P (i0 : Int) = .ok P1 := by
      unfold m__law_times_b3
      have f1' : foldR (m__law_times_b2 a b (i0 : Int)) P (rng 0 b.length) = .ok P1 := f1
      rw [grd_ok (show rgOk (b.length : Int) by unfold rgOk; omega), show ((b.length : Int)).toNat = b.length by omega, f1', R.bind_ok]
    obtain ⟨P', e1, e2, e3⟩ := m__law_times_outer K a b hb as (i0 + 1) P1 (fun k hk => by
      have q := ha (k + 1) (by show k + 1 < as.length + 1; omega)
      rw [show i0 + 1 + k = i0 + (k + 1) by omega, q]
      rfl) (by omega) hx (by omega)
    refine ⟨P', ?_, by omega, ?_⟩
    · show (m__law_times_b3 a b P (i0 : Int)).bind _ = _
      rw [e, R.bind_ok]
      exact e1
    · rw [e3, f3, x0, pl_outer, Nat.add_zero]
      grind
theorem rng_map (n : Nat) (lo : Int) : (rng lo n).map (fun _ => (0 : Int)) = List.replicate n 0 := by
  induction n generalizing lo with
  | zero => rfl
  | succ n ih => show 0 :: (rng (lo + 1) n).map _ = _; rw [ih]; rfl
theorem m__law_times_ok {K : Type} [CommRing K] {p : Int} (H : Ch K p) (a b : List Int) (ha : ∀ x ∈ a, x.natAbs ≤ 1000) (la : a.length ≤ 400) (lb : b.length ≤ 400) : ∃ l, m__law_times a b p = .ok l ∧ nrm p l ∧ pl K l = pl K a * pl K b ∧ l.length ≤ a.length + b.length := by
  have p0 : 0 < p := by have := H.pos; omega
  have hr : ((a.length : Int) + (b.length : Int)).toNat = a.length + b.length := by omega
  obtain ⟨P, e1, e2, e3⟩ := m__law_times_outer K a b lb a 0 (List.replicate (a.length + b.length) 0) (fun k _ => by rw [Nat.zero_add]) (by omega) ha (by rw [List.length_replicate]; omega)
  rw [List.length_replicate] at e2
  refine ⟨tr p P, ?_, tr_nrm p0 _, ?_, by rw [← e2]; exact tr_len p P⟩
  · unfold m__law_times
    rw [grd_ok (show rgOk ((a.length : Int) + (b.length : Int)) by unfold rgOk; omega), hr, fold_map (f := m__law_times_b1) (g := fun _ => 0) _ [] (fun s x hs _ => by unfold m__law_times_b1; rw [grd_ok (lenLt_small hs)]) (by rw [rng_length]; show 0 + _ ≤ 1000; omega), R.bind_ok, List.nil_append, rng_map, grd_ok (show rgOk (a.length : Int) by unfold rgOk; omega), show ((a.length : Int)).toNat = a.length by omega]
    have e1' : foldR (m__law_times_b3 a b) (List.replicate (a.length + b.length) 0) (rng 0 a.length) = .ok P := e1
    rw [e1', R.bind_ok, m__law_trim_2_ok _ _ p0 (by omega), R.bind_ok]
  · rw [tr_pl H, e3, pl_replicate, sh_zero]
    grind
end
end Pf
set_option Elab.async false
set_option linter.all false
set_option maxRecDepth 100000
namespace Pf
open PySem PySem.Spec PyProof.Rows L2 Mir Pol

section
open Lean.Grind
theorem pl_setM {K : Type} [CommRing K] (l : List Int) (k : Nat) (w w' : Int) (h : k < l.length) (e : ic K w' = ic K (l.getD k 0) + ic K w) : pl K (l.set k w') = pl K l + sh k (C (ic K w)) := PS.ext fun i => by
  rw [add_c, pl_c, pl_c, sh_c, getD_set _ _ _ _ h]
  by_cases e1 : i = k
  · rw [if_pos e1, e1, if_neg (by omega), Nat.sub_self, e]
    rfl
  · rw [if_neg e1]
    by_cases e2 : i < k
    · rw [if_pos e2]
      grind
    · rw [if_neg e2]
      show _ = _ + cst (ic K w) (i - k)
      unfold cst
      rw [if_neg (by omega)]
      grind
theorem in_set {p v : Int} {P : List Int} {k : Nat} (h : ∀ x ∈ P, In p x) (hv : In p v) : ∀ x ∈ P.set k v, In p x := fun x hx => by
  rcases List.mem_or_eq_of_mem_set hx with q | q
  · exact h x q
  · rw [q]
    exact hv
/-- members other than 0 have inverses, and the program finds them -/
def InvOk (p : Int) : Prop := ∀ x : Int, In p x → x ≠ 0 → ∃ f, m_inverse_modulo x p = .ok f ∧ In p f ∧ x * f % p = 1
theorem sh_zero' {K : Type} [CommRing K] (n : Nat) : sh n (0 : PS K) = 0 := PS.ext fun i => by
  rw [sh_c, zero_c, zero_c]
  split <;> rfl
theorem sh_sub {K : Type} [CommRing K] (n : Nat) (f g : PS K) : sh n (f - g) = sh n f - sh n g := PS.ext fun k => by
  rw [sub_c, sh_c, sh_c, sh_c]
  split
  · grind
  · rfl
theorem C_neg {K : Type} [CommRing K] (a : K) : C (-a) = -C a := PS.ext fun i => by
  show cst (-a) i = -cst a i
  unfold cst
  split <;> grind
end

section
open Lean.Grind
theorem m_divide_rows_inner {K : Type} [CommRing K] {p : Int} (H : Ch K p) (hp : p ≤ 1000) (at0 : Nat) (Qt : List Int) (q : Int) (hq : In p q) (hQ : Qt.getD at0 0 = q) (hQl : at0 < Qt.length) : ∀ (bs : List Int) (j0 : Nat) (P : List Int), (∀ x ∈ P, In p x) → at0 + j0 + bs.length ≤ P.length → ∃ P', foldR (m_divide_rows_b1 p (at0 : Int) Qt) P ((rng (j0 : Int) bs.length).zip bs) = .ok P' ∧ P'.length = P.length ∧ (∀ x ∈ P', In p x) ∧ pl K P' = pl K P - sh (at0 + j0) (C (ic K q) * pl K bs)
  | [], j0, P, hP, _ => ⟨P, rfl, rfl, hP, by
    rw [plN, show C (ic K q) * (0 : PS K) = 0 by grind, sh_zero']
    grind⟩
  | y :: bs, j0, P, hP, h => by
    have p0 : 0 < p := by have := H.pos; omega
    have h' : at0 + j0 + (bs.length + 1) ≤ P.length := h
    have hv : In p ((P.getD (at0 + j0) 0 - q * y) % p) := ⟨Int.emod_nonneg _ (by omega), Int.emod_lt_of_pos _ p0⟩
    have e : m_divide_rows_b1 p (at0 : Int) Qt P ((j0 : Int), y) = .ok (P.set (at0 + j0) ((P.getD (at0 + j0) 0 - q * y) % p)) := by
      unfold m_divide_rows_b1
      dsimp only
      rw [getL_int (l := P) (by omega) (by omega), R.bind_ok, getL_int (l := Qt) (by omega) (by omega), R.bind_ok, show (at0 : Int).toNat = at0 by omega, hQ, grd_ok (small_mul (by have := hq.1; have := hq.2; omega)), grd_ok p0, setL_int (by omega) (by omega), R.bind_ok, show ((at0 : Int) + (j0 : Int)).toNat = at0 + j0 by omega]
    obtain ⟨P', e1, e2, e4, e3⟩ := m_divide_rows_inner H hp at0 Qt q hq hQ hQl bs (j0 + 1) (P.set (at0 + j0) ((P.getD (at0 + j0) 0 - q * y) % p)) (in_set hP hv) (by rw [List.length_set]; omega)
    refine ⟨P', ?_, by rw [e2, List.length_set], e4, ?_⟩
    · show (m_divide_rows_b1 p (at0 : Int) Qt P ((j0 : Int), y)).bind _ = _
      rw [e, R.bind_ok]
      exact e1
    · rw [e3, pl_setM P (at0 + j0) (-(q * y)) _ (by omega) (by rw [H.mod, ic_sub, ic_neg]; grind), pl_step, ic_neg, C_neg, ← Nat.add_assoc]
      have z : sh (at0 + j0) (-C (ic K (q * y))) = -sh (at0 + j0) (C (ic K (q * y))) := by
        have := sh_sub (at0 + j0) 0 (C (ic K (q * y)))
        rw [sh_zero'] at this
        grind
      rw [z]
      grind
theorem m_divide_rows_outer {K : Type} [CommRing K] {p : Int} (H : Ch K p) (hp : p ≤ 1000) (a b : List Int) (f : Int) (hf : In p f) (b0 : b ≠ []) (hl : ic K (b.getD (b.length - 1) 0) * ic K f = 1) (n : Nat) (hn : (n : Int) = (a.length : Int) - b.length + 1 ∨ n = 0) : ∀ (m : Nat) (P Q : List Int), m ≤ n → P.length = a.length → Q.length = n → (∀ x ∈ P, In p x) → (∀ i, i < m → Q.getD i 0 = 0) → dlt (m + b.length - 1) (pl K P) → pl K P + pl K Q * pl K b = pl K a →
    ∃ P' Q', foldR (m_divide_rows_b2 b p f) (P, Q) (rngC ((m : Int) - 1) (-1) m) = .ok (P', Q') ∧ P'.length = a.length ∧ Q'.length = n ∧ dlt (b.length - 1) (pl K P') ∧ pl K P' + pl K Q' * pl K b = pl K a
  | 0, P, Q, _, h1, h2, _, _, h5, h6 => ⟨P, Q, rfl, h1, h2, by rwa [Nat.zero_add] at h5, h6⟩
  | m + 1, P, Q, h0, h1, h2, h3, h4, h5, h6 => by
    have p0 : 0 < p := by have := H.pos; omega
    have lb : 0 < b.length := List.length_pos_iff.mpr b0
    have ix : m + b.length - 1 < P.length := by rcases hn with z | z <;> omega
    have hv : In p (P.getD (m + b.length - 1) 0) := by
      rw [List.getD_eq_getElem?_getD, List.getElem?_eq_getElem ix]
      exact h3 _ (List.getElem_mem _)
    have hq : In p (P.getD (m + b.length - 1) 0 * f % p) := ⟨Int.emod_nonneg _ (by omega), Int.emod_lt_of_pos _ p0⟩
    have qt : (Q.set m (P.getD (m + b.length - 1) 0 * f % p)).getD m 0 = P.getD (m + b.length - 1) 0 * f % p := by rw [getD_set _ _ _ _ (by omega), if_pos rfl]
    obtain ⟨P1, f1, f2, f3, f4⟩ := m_divide_rows_inner H hp m (Q.set m (P.getD (m + b.length - 1) 0 * f % p)) _ hq qt (by rw [List.length_set]; omega) b 0 P h3 (by omega)
    rw [Nat.add_zero] at f4
    have e : m_divide_rows_b2 b p f (P, Q) ((m : Int)) = .ok (P1, Q.set m (P.getD (m + b.length - 1) 0 * f % p)) := by
      unfold m_divide_rows_b2 enumF
      dsimp only
      have f1' : foldR (m_divide_rows_b1 p (m : Int) (Q.set m (P.getD (m + b.length - 1) 0 * f % p))) P ((rng 0 b.length).zip b) = .ok P1 := f1
      rw [getL_int (l := P) (by omega) (by omega), R.bind_ok, show ((m : Int) + (b.length : Int) - 1).toNat = m + b.length - 1 by omega, grd_ok (small_mul (by have := hv.1; have := hv.2; omega)), grd_ok p0, setL_int (by omega) (by omega), R.bind_ok, show (m : Int).toNat = m by omega, f1', R.bind_ok]
    have qs : pl K (Q.set m (P.getD (m + b.length - 1) 0 * f % p)) = pl K Q + sh m (C (ic K (P.getD (m + b.length - 1) 0 * f % p))) := pl_setM Q m _ _ (by omega) (by rw [h4 m (by omega), ic_zero]; grind)
    have key : pl K P1 + pl K (Q.set m (P.getD (m + b.length - 1) 0 * f % p)) * pl K b = pl K a := by
      rw [f4, qs, Semiring.right_distrib, sh_mul]
      grind
    have top : dlt (m + b.length - 1) (pl K P1) := fun i hi => by
      rw [f4, sub_c, sh_c, if_neg (by omega), C_mul_c]
      by_cases z : i = m + b.length - 1
      · subst z
        rw [show m + b.length - 1 - m = b.length - 1 by omega, pl_c, pl_c, H.mod, ic_mul]
        grind
      · rw [h5 i (by omega), dlt_pl b (i - m) (by omega)]
        grind
    obtain ⟨P', Q', g1, g2⟩ := m_divide_rows_outer H hp a b f hf b0 hl n hn m P1 _ (by omega) (by omega) (by rw [List.length_set]; exact h2) f3 (fun i hi => by rw [getD_set _ _ _ _ (by omega), if_neg (by omega)]; exact h4 i (by omega)) top key
    refine ⟨P', Q', ?_, g2⟩
    show (m_divide_rows_b2 b p f (P, Q) (((m + 1 : Nat) : Int) - 1)).bind _ = _
    rw [show ((m + 1 : Nat) : Int) - 1 = (m : Int) by omega, e, R.bind_ok]
    exact g1
theorem m_divide_rows_ok {K : Type} [CommRing K] {p : Int} (H : Ch K p) (hp : p ≤ 1000) (I : InvOk p) (a b : List Int) (ha : ∀ x ∈ a, In p x) (hb : nrm p b) (b0 : b ≠ []) (la : a.length ≤ 400) (lb : b.length ≤ 400) :
    ∃ q r, m_divide_rows a b p = .ok (q, r) ∧ nrm p q ∧ nrm p r ∧ r.length < b.length ∧ pl K a = pl K q * pl K b + pl K r ∧ q.length ≤ a.length + 1 := by
  have p0 : 0 < p := by have := H.pos; omega
  have lb0 : 0 < b.length := List.length_pos_iff.mpr b0
  have hlead := hb.at p0 (b.length - 1)
  have nlead := hb.2.resolve_left b0
  obtain ⟨f, i1, i2, i3⟩ := I _ hlead nlead
  have hl : ic K (b.getD (b.length - 1) 0) * ic K f = 1 := by
    rw [← ic_mul, ← H.mod, i3, ic_one]
  have hr : ∀ n : Nat, (((a.length : Int) - (b.length : Int)) + 1).toNat = n → (n : Int) = (a.length : Int) - b.length + 1 ∨ n = 0 := fun n e => by omega
  have nl : (((a.length : Int) - (b.length : Int)) + 1).toNat ≤ a.length + 1 := by omega
  generalize hn : (((a.length : Int) - (b.length : Int)) + 1).toNat = n at hr nl
  obtain ⟨P', Q', g1, g2, g3, g4, g5⟩ := m_divide_rows_outer H hp a b f i2 b0 hl n (hr n rfl) n a (List.replicate n 0) (Nat.le_refl _) rfl List.length_replicate ha (fun i hi => by
    rw [List.getD_eq_getElem?_getD, List.getElem?_replicate]
    split <;> rfl) (fun i hi => dlt_pl a i (by rcases hr n rfl with z | z <;> omega)) (by rw [pl_replicate]; grind)
  refine ⟨tr p Q', tr p P', ?_, tr_nrm p0 _, tr_nrm p0 _, ?_, ?_, ?_⟩
  · unfold m_divide_rows
    rw [show (!(!b.isEmpty)) = false by cases b with | nil => exact absurd rfl b0 | cons _ _ => rfl, if_neg (by decide), getL_last b0, R.bind_ok, i1, R.bind_ok, grd_ok (rep_ok (by omega) (by omega) _), grd_ok (show rgOk ((a.length : Int) - (b.length : Int) + 1) by unfold rgOk; omega), repL_one, hn, g1, R.bind_ok]
    dsimp only
    rw [m_trimmed_3_ok _ _ p0 (by omega), m_trimmed_3_ok _ _ p0 (by omega)]
    rfl
  · have := nrm_dlt H (tr_nrm p0 P') (d := b.length - 1) (by rw [tr_pl H]; exact g4)
    omega
  · rw [tr_pl H, tr_pl H, ← g5]
    grind
  · have := tr_len p Q'
    omega
end
end Pf
set_option Elab.async false
set_option linter.all false
set_option maxRecDepth 100000
namespace Pf
open PySem PySem.Spec PyProof.Rows L2 Mir Pol

section
open Lean.Grind
theorem Ch.one_ne {K : Type} [CommRing K] {p : Int} (H : Ch K p) : (1 : K) ≠ 0 := fun e => by
  have := H.ne (x := 1) ⟨by omega, H.pos⟩ (by omega)
  rw [ic_one] at this
  exact this e
theorem nat_small {p : Int} (hp : p ≤ 1000) {l : List Int} (h : ∀ x ∈ l, In p x) : ∀ x ∈ l, x.natAbs ≤ 1000 := fun x hx => by
  have := h x hx
  have := this.1
  have := (h x hx).2
  omega
theorem pl_one_item {K : Type} [CommRing K] (x : Int) : pl K [x] = C (ic K x) := by
  rw [plC, plN, sh_zero']
  grind
theorem Dv.zero_iff {K : Type} [CommRing K] {d f g : PS K} (e : g = 0) : (Dv d f ∧ Dv d g) ↔ Dv d f := ⟨fun h => h.1, fun h => ⟨h, e ▸ Dv.zero d⟩⟩
theorem common_ok {K : Type} [CommRing K] {p : Int} (H : Ch K p) (hp : p ≤ 1000) (I : InvOk p) (a b : List Int) (ha : nrm p a) (hb : nrm p b) (la : a.length ≤ 390) (lb : b.length ≤ 390) :
    ∃ g, m_common_row a b p = .ok g ∧ nrm p g ∧ (g = [] ∨ g.getD (g.length - 1) 0 = 1) ∧ (∀ d : PS K, Dv d (pl K g) ↔ Dv d (pl K a) ∧ Dv d (pl K b)) ∧ g.length ≤ 390 := by
  have p0 : 0 < p := by have := H.pos; omega
  obtain ⟨s, e, ⟨i1, i2, i3, i4, i5⟩, c⟩ := whileR_inv (c := m_common_row_b1) (f := m_common_row_b2 p)
    (fun s : List Int × List Int => nrm p s.1 ∧ nrm p s.2 ∧ s.1.length ≤ 390 ∧ s.2.length ≤ 390 ∧ ∀ d : PS K, (Dv d (pl K s.1) ∧ Dv d (pl K s.2)) ↔ (Dv d (pl K a) ∧ Dv d (pl K b))) (fun s => s.2.length) (fun s hs => by
    obtain ⟨x, y⟩ := s
    obtain ⟨h1, h2, h3, h4, h5⟩ := hs
    dsimp only at h1 h2 h3 h4 h5
    by_cases z : y = []
    · right
      rw [z]
      rfl
    · left
      obtain ⟨q, r, e1, e2, e3, e4, e5, e6⟩ := m_divide_rows_ok H hp I x y h1.1 h2 z (by omega) (by omega)
      refine ⟨by cases y with | nil => exact absurd rfl z | cons _ _ => rfl, (y, r), ?_, ⟨h2, e3, h4, by show r.length ≤ 390; omega, fun d => ?_⟩, e4⟩
      · unfold m_common_row_b2
        rw [e1, R.bind_ok]
      · rw [← h5]
        show Dv d (pl K y) ∧ Dv d (pl K r) ↔ _
        constructor
        · intro ⟨k1, k2⟩
          exact ⟨by rw [e5]; exact (k1.mul _ (fin_pl q)).add k2, k1⟩
        · intro ⟨k1, k2⟩
          refine ⟨k2, ?_⟩
          have z2 : pl K r = pl K x - pl K q * pl K y := by rw [e5]; grind
          rw [z2]
          exact k1.sub (k2.mul _ (fin_pl q))) 100000 (a, b) ⟨ha, hb, la, lb, fun d => Iff.rfl⟩ (by show b.length < 100000; omega)
  obtain ⟨x, y⟩ := s
  dsimp only at i1 i2 i3 i4 i5
  have y0 : y = [] := by
    cases y with
    | nil => rfl
    | cons u v => exact absurd (R.ok.inj c) (by show ¬ (true = false); decide)
  subst y0
  have D : ∀ d : PS K, Dv d (pl K x) ↔ (Dv d (pl K a) ∧ Dv d (pl K b)) := fun d => (Dv.zero_iff plN).symm.trans (i5 d)
  unfold m_common_row
  rw [e, R.bind_ok]
  by_cases z : x = []
  · subst z
    exact ⟨[], rfl, i1, .inl rfl, D, by show 0 ≤ 390; omega⟩
  · have hx := i1.at p0 (x.length - 1)
    have nx := i1.2.resolve_left z
    have lx : 0 < x.length := List.length_pos_iff.mpr z
    obtain ⟨f, f1, f2, f3⟩ := I _ hx nx
    have hl : ic K (x.getD (x.length - 1) 0) * ic K f = 1 := by rw [← ic_mul, ← H.mod, f3, ic_one]
    obtain ⟨g, g1, g2, g3, g4⟩ := m_multiply_rows_ok H x [f] (nat_small hp i1.1) (by omega) (by show 1 ≤ 400; omega)
    rw [pl_one_item] at g3
    have lc : (pl K g).c (x.length - 1) = 1 := by
      rw [g3, CommSemiring.mul_comm, C_mul_c, pl_c]
      grind
    have l1 : g.length ≤ x.length := nrm_dlt H g2 fun i hi => by
      rw [g3, CommSemiring.mul_comm, C_mul_c, dlt_pl x i hi]
      grind
    have l2 : x.length ≤ g.length := by
      by_cases q : x.length ≤ g.length
      · exact q
      · rw [dlt_pl g _ (by omega)] at lc
        exact absurd lc.symm (Ch.one_ne H)
    refine ⟨g, ?_, g2, .inr ?_, fun d => ?_, by omega⟩
    · rw [show (!(!x.isEmpty)) = false by cases x with | nil => exact absurd rfl z | cons _ _ => rfl, if_neg (by decide), getL_last z, R.bind_ok, f1, R.bind_ok, g1]
      rfl
    · rw [show g.length = x.length by omega]
      refine H.inj (g2.at p0 _) ⟨by omega, H.pos⟩ ?_
      rw [ic_one]
      exact lc
    · rw [← D]
      constructor
      · intro k
        have z2 : pl K x = C (ic K (x.getD (x.length - 1) 0)) * pl K g := by
          rw [g3]
          have : C (ic K (x.getD (x.length - 1) 0)) * C (ic K f) = 1 := by rw [C_mul_C, hl]; rfl
          grind
        rw [z2]
        exact k.mul _ (fin_C _)
      · intro k
        rw [g3, CommSemiring.mul_comm]
        exact k.mul _ (fin_C _)
theorem rest_inner {K : Type} [CommRing K] {p : Int} (H : Ch K p) (hp : p ≤ 1000) (S m : List Int) (q : Int) (hq : In p q) (hm : m.length ≤ S.length) : ∀ (bs : List Int) (j0 : Nat) (P : List Int), (∀ k, k < bs.length → m.getD (j0 + k) 0 = bs.getD k 0) → j0 + bs.length ≤ m.length → P.length = S.length → (∀ x ∈ P, In p x) → ∃ P', foldR (m__law_rest_b3 m p S q) P (rng (j0 : Int) bs.length) = .ok P' ∧ P'.length = P.length ∧ (∀ x ∈ P', In p x) ∧ pl K P' = pl K P - sh (S.length - m.length + j0) (C (ic K q) * pl K bs)
  | [], j0, P, _, _, _, hP => ⟨P, rfl, rfl, hP, by
    rw [plN, show C (ic K q) * (0 : PS K) = 0 by grind, sh_zero']
    grind⟩
  | y :: bs, j0, P, hb, hl, hPl, hP => by
    have p0 : 0 < p := by have := H.pos; omega
    have hl' : j0 + (bs.length + 1) ≤ m.length := hl
    have y0 : m.getD j0 0 = y := hb 0 (by show 0 < bs.length + 1; omega)
    have ix : ((S.length : Int) - (m.length : Int) + (j0 : Int)).toNat = S.length - m.length + j0 := by omega
    have hv : In p ((P.getD (S.length - m.length + j0) 0 - q * y) % p) := ⟨Int.emod_nonneg _ (by omega), Int.emod_lt_of_pos _ p0⟩
    have e : m__law_rest_b3 m p S q P (j0 : Int) = .ok (P.set (S.length - m.length + j0) ((P.getD (S.length - m.length + j0) 0 - q * y) % p)) := by
      unfold m__law_rest_b3
      rw [getL_int (l := P) (by omega) (by omega), R.bind_ok, getL_int (l := m) (by omega) (by omega), R.bind_ok, ix, show (j0 : Int).toNat = j0 by omega, y0, grd_ok (small_mul (by have := hq.1; have := hq.2; omega)), grd_ok p0, setL_int (by omega) (by omega), R.bind_ok, ix]
    obtain ⟨P', e1, e2, e4, e3⟩ := rest_inner H hp S m q hq hm bs (j0 + 1) (P.set (S.length - m.length + j0) ((P.getD (S.length - m.length + j0) 0 - q * y) % p)) (fun k hk => by
      have q := hb (k + 1) (by show k + 1 < bs.length + 1; omega)
      rw [show j0 + 1 + k = j0 + (k + 1) by omega, q]
      rfl) (by omega) (by rw [List.length_set]; exact hPl) (in_set hP hv)
    refine ⟨P', ?_, by rw [e2, List.length_set], e4, ?_⟩
    · show (m__law_rest_b3 m p S q P (j0 : Int)).bind _ = _
      rw [e, R.bind_ok]
      exact e1
    · rw [e3, pl_setM P (S.length - m.length + j0) (-(q * y)) _ (by omega) (by rw [H.mod, ic_sub, ic_neg]; grind), pl_step, ic_neg, C_neg, ← Nat.add_assoc]
      have z : sh (S.length - m.length + j0) (-C (ic K (q * y))) = -sh (S.length - m.length + j0) (C (ic K (q * y))) := by
        have := sh_sub (S.length - m.length + j0) 0 (C (ic K (q * y)))
        rw [sh_zero'] at this
        grind
      rw [z]
      grind
theorem pl_dropLast {K : Type} [CommRing K] (l : List Int) (h : l.getD (l.length - 1) 0 = 0) : pl K l.dropLast = pl K l := PS.ext fun i => by
  rw [pl_c, pl_c, List.dropLast_eq_take]
  by_cases z : i < l.length - 1
  · rw [getD_take z]
  · rw [getD_ge (by rw [List.length_take]; omega)]
    by_cases e : i = l.length - 1
    · rw [e, h]
    · rw [getD_ge (by omega)]
theorem rest_ok {K : Type} [CommRing K] {p : Int} (H : Ch K p) (hp : p ≤ 1000) (a m : List Int) (m0 : m ≠ []) (mono : m.getD (m.length - 1) 0 = 1) (la : a.length ≤ 400) (lm : m.length ≤ 400) :
    ∃ r, m__law_rest a m p = .ok r ∧ nrm p r ∧ r.length < m.length ∧ ∃ u, fin u ∧ pl K a = u * pl K m + pl K r := by
  have p0 : 0 < p := by have := H.pos; omega
  have lm0 : 0 < m.length := List.length_pos_iff.mpr m0
  have hM : ∀ x ∈ a.map (· % p), In p x := fun x hx => by
    obtain ⟨y, _, e⟩ := List.mem_map.mp hx
    rw [← e]
    exact ⟨Int.emod_nonneg _ (by omega), Int.emod_lt_of_pos _ p0⟩
  have plM : pl K (a.map (· % p)) = pl K a := PS.ext fun i => by rw [pl_c, pl_c, getD_map, H.mod]
  obtain ⟨s, e, ⟨i1, i2, u, i3, i4⟩, c⟩ := whileR_inv (c := m__law_rest_b2 m) (f := m__law_rest_b4 m p)
    (fun s : List Int => (∀ x ∈ s, In p x) ∧ s.length ≤ 400 ∧ ∃ u, fin u ∧ pl K a = u * pl K m + pl K s) (fun s => s.length) (fun s hs => by
    obtain ⟨h1, h2, u, h3, h4⟩ := hs
    by_cases z : m.length ≤ s.length
    · left
      have s0 : s ≠ [] := fun e => by rw [e] at z; exact absurd z (by show ¬ m.length ≤ 0; omega)
      have ix : s.length - 1 < s.length := by omega
      have hq : In p (s.getD (s.length - 1) 0) := by
        rw [List.getD_eq_getElem?_getD, List.getElem?_eq_getElem ix]
        exact h1 _ (List.getElem_mem _)
      obtain ⟨P, g1, g2, g3, g4⟩ := rest_inner H hp s m _ hq z m 0 s (fun k _ => by rw [Nat.zero_add]) (by omega) rfl h1
      rw [Nat.add_zero] at g4
      have P0 : P ≠ [] := fun e => by
        rw [e] at g2
        exact absurd g2 (by show ¬ 0 = s.length; omega)
      have top : P.getD (P.length - 1) 0 = 0 := by
        have hin : In p (P.getD (P.length - 1) 0) := by
          rw [List.getD_eq_getElem?_getD, List.getElem?_eq_getElem (show P.length - 1 < P.length by omega)]
          exact g3 _ (List.getElem_mem _)
        refine H.inj hin ⟨Int.le_refl _, p0⟩ ?_
        have z2 : (pl K P).c (P.length - 1) = 0 := by
          rw [g4, sub_c, sh_c, if_neg (by omega), C_mul_c, pl_c, pl_c, show P.length - 1 - (s.length - m.length) = m.length - 1 by omega, mono, ic_one, g2]
          grind
        rw [ic_zero]
        exact z2
      refine ⟨by unfold m__law_rest_b2; rw [decide_eq_true (show (m.length : Int) ≤ (s.length : Int) by omega)], P.dropLast, ?_, ⟨fun x hx => g3 x (List.mem_of_mem_take (by rw [List.dropLast_eq_take] at hx; exact hx)), by rw [List.length_dropLast]; omega, u + sh (s.length - m.length) (C (ic K (s.getD (s.length - 1) 0))), h3.add (fin_sh _ (fin_C _)), ?_⟩, by rw [List.length_dropLast]; omega⟩
      · unfold m__law_rest_b4
        have g1' : foldR (m__law_rest_b3 m p s (s.getD (s.length - 1) 0)) s (rng 0 m.length) = .ok P := g1
        rw [getL_int (l := s) (by omega) (by omega), R.bind_ok, show ((s.length : Int) - 1).toNat = s.length - 1 by omega, grd_ok (show rgOk (m.length : Int) by unfold rgOk; omega), show ((m.length : Int)).toNat = m.length by omega, g1', R.bind_ok, popL_ok P0, R.bind_ok]
      · rw [pl_dropLast P top, g4, h4, Semiring.right_distrib, sh_mul]
        grind
    · right
      unfold m__law_rest_b2
      rw [decide_eq_false (show ¬ (m.length : Int) ≤ (s.length : Int) by omega)]) 100000 (a.map (· % p)) ⟨hM, by rw [List.length_map]; exact la, 0, fin_zero, by rw [plM]; grind⟩ (by rw [List.length_map]; omega)
  have ls : s.length < m.length := by
    by_cases z : s.length < m.length
    · exact z
    · unfold m__law_rest_b2 at c
      rw [decide_eq_true (show (m.length : Int) ≤ (s.length : Int) by omega)] at c
      exact absurd (R.ok.inj c) (by decide)
  refine ⟨tr p s, ?_, tr_nrm p0 _, by have := tr_len p s; omega, u, i3, by rw [tr_pl H]; exact i4⟩
  unfold m__law_rest
  rw [fold_map (f := m__law_rest_b1 p) (g := (· % p)) a [] (fun s x hs _ => by unfold m__law_rest_b1; rw [grd_ok p0, grd_ok (lenLt_small hs)]) (by show 0 + a.length ≤ 1000; omega), R.bind_ok, List.nil_append, e, R.bind_ok, m__law_trim_2_ok _ _ p0 (by omega), R.bind_ok]
end
end Pf
set_option Elab.async false
set_option linter.all false
set_option maxRecDepth 100000
namespace Pf
open PySem PySem.Spec PyProof.Rows L2 Mir Pol
theorem m_by_squaring_F (F : Nat → (List Int)) (prod : (List Int) → (List Int) → R (List Int)) (k : Int) (h : ∀ i j : Nat, i + j ≤ k.toNat → prod (F i) (F j) = .ok (F (i + j))) (hk0 : 0 ≤ k) (hk : k < 50000) : m_by_squaring (F 0) (F 1) k prod = .ok (F k.toNat) := by
  obtain ⟨s, e, ⟨i, j, i1, i2, i3, i4⟩, c⟩ := whileR_inv (c := m_by_squaring_b1) (f := m_by_squaring_b2 prod)
    (fun s : (List Int) × (List Int) × Int => ∃ i j : Nat, s.1 = F i ∧ s.2.1 = F j ∧ 0 ≤ s.2.2 ∧ i + j * s.2.2.toNat = k.toNat) (fun s => s.2.2.toNat) (fun s hs => by
    obtain ⟨p, q, r⟩ := s
    obtain ⟨i, j, h1, h2, h3, h4⟩ := hs
    dsimp only at h1 h2 h3 h4
    subst h1 h2
    by_cases z : 0 < r
    · left
      refine ⟨by unfold m_by_squaring_b1; dsimp only; rw [decide_eq_true z], (if r % 2 = 1 then F (i + j) else F i, if 0 < r / 2 then F (j + j) else F j, r / 2), ?_, ?_, ?_⟩
      · unfold m_by_squaring_b2
        dsimp only
        have q1 : j * 1 ≤ j * r.toNat := Nat.mul_le_mul_left j (by omega)
        have ha := h i j (by omega)
        by_cases o2 : 0 < r / 2
        · have q2 : j * 2 ≤ j * r.toNat := Nat.mul_le_mul_left j (by omega)
          have hb := h j j (by omega)
          by_cases o : r % 2 = 1 <;> simp [o, o2, ha, hb, R.bind_ok]
        · by_cases o : r % 2 = 1 <;> simp [o, o2, ha, R.bind_ok]
      · refine ⟨if r % 2 = 1 then i + j else i, if 0 < r / 2 then j + j else j, by dsimp only; split <;> rfl, by show (if 0 < r / 2 then F (j + j) else F j) = _; split <;> rfl, by show 0 ≤ r / 2; omega, ?_⟩
        show _ + _ * (r / 2).toNat = _
        rw [← h4]
        obtain ⟨n, hn⟩ : ∃ n : Nat, r = n := ⟨r.toNat, by omega⟩
        subst hn
        have e1 : ((n : Int) / 2).toNat = n / 2 := by omega
        have e2 : (n : Int).toNat = n := by omega
        rw [e1, e2]
        have e3 : n = 2 * (n / 2) + n % 2 := by omega
        generalize n / 2 = d at *
        by_cases o2 : 0 < (n : Int) / 2
        · rw [if_pos o2]
          by_cases o : (n : Int) % 2 = 1
          · rw [if_pos o, show n = 2 * d + 1 by omega, Nat.mul_add, Nat.add_mul, Nat.mul_left_comm j 2 d]
            omega
          · rw [if_neg o, show n = 2 * d by omega, Nat.add_mul, Nat.mul_left_comm j 2 d]
            omega
        · have d0 : d = 0 := by omega
          rw [if_neg o2, d0]
          by_cases o : (n : Int) % 2 = 1
          · rw [if_pos o, show n = 1 by omega, Nat.mul_zero, Nat.mul_one]
            rfl
          · rw [if_neg o, show n = 0 by omega, Nat.mul_zero]
      · show (r / 2).toNat < r.toNat
        omega
    · right
      unfold m_by_squaring_b1
      dsimp only
      rw [decide_eq_false z]) 100000 (F 0, F 1, k) ⟨0, 1, rfl, rfl, hk0, by show 0 + 1 * k.toNat = _; omega⟩ (by show k.toNat < 100000; omega)
  obtain ⟨p, q, r⟩ := s
  dsimp only at i1 i2 i3 i4
  have z : r = 0 := by
    unfold m_by_squaring_b1 at c
    dsimp only at c
    have c' := of_decide_eq_false (R.ok.inj c)
    omega
  unfold m_by_squaring
  rw [e, R.bind_ok]
  show R.ok p = _
  subst z
  rw [i1, ← i4]
  show R.ok (F i) = R.ok (F (i + j * 0))
  rw [Nat.mul_zero, Nat.add_zero]

section
open Lean.Grind
variable {K : Type} [CommRing K] {p : Int}
theorem prod_zero (H : Ch K p) {a c : List Int} (ha : nrm p a) (hc : nrm p c) (e : pl K a * pl K c = 0) : a = [] ∨ c = [] := by
  have p0 : 0 < p := by have := H.pos; omega
  by_cases a0 : a = []
  · exact .inl a0
  by_cases c0 : c = []
  · exact .inr c0
  have la : 0 < a.length := List.length_pos_iff.mpr a0
  have lc : 0 < c.length := List.length_pos_iff.mpr c0
  have t := top_c (f := pl K a) (g := pl K c) (d := a.length - 1) (t := c.length - 1) ((dlt_pl a).mono (by omega)) ((dlt_pl c).mono (by omega))
  rw [e, zero_c] at t
  rcases H.nz _ _ t.symm with z | z
  · exact absurd z (H.ne (ha.at p0 _) (ha.2.resolve_left a0))
  · exact absurd z (H.ne (hc.at p0 _) (hc.2.resolve_left c0))
theorem lead_nz (H : Ch K p) {c : List Int} (hc : nrm p c) (c0 : c ≠ []) : ∀ a : K, a * (pl K c).c (c.length - 1) = 0 → a = 0 := fun a e => by
  have p0 : 0 < p := by have := H.pos; omega
  exact (H.nz _ _ e).resolve_right (H.ne (hc.at p0 _) (hc.2.resolve_left c0))
theorem dlt_top {c : List Int} (c0 : c ≠ []) : dlt (c.length - 1 + 1) (pl K c) := (dlt_pl c).mono (by have := List.length_pos_iff.mpr c0; omega)
/-- two remainders by c are one -/
theorem rem_eq (H : Ch K p) {c r r' : List Int} {q q' f : PS K} (hc : nrm p c) (c0 : c ≠ []) (hr : nrm p r) (hr' : nrm p r') (l : r.length < c.length) (l' : r'.length < c.length) (fq : fin q) (fq' : fin q') (e : f = q * pl K c + pl K r) (e' : f = q' * pl K c + pl K r') : r = r' :=
  nrm_uniq H hr hr' (rem_uniq (lead_nz H hc c0) (dlt_top c0) fq fq' ((dlt_pl r).mono (by omega)) ((dlt_pl r').mono (by omega)) e e')
def getR (m : R (List Int)) : List Int := match m with
  | .ok l => l
  | _ => []
def Pw (a : List Int) (p : Int) : Nat → List Int
  | 0 => [1]
  | n + 1 => getR (m__law_times (Pw a p n) a p)
theorem pw_ok (H : Ch K p) (hp : p ≤ 1000) (a : List Int) (ha : nrm p a) (la : a.length ≤ 5) : ∀ n, n ≤ 20 → nrm p (Pw a p n) ∧ pl K (Pw a p n) = (pl K a) ^ n ∧ (Pw a p n).length ≤ 1 + 5 * n ∧ (∀ i, i + 1 = n → m__law_times (Pw a p i) a p = .ok (Pw a p n))
  | 0, _ => by
    refine ⟨⟨fun x hx => ?_, .inr (by show (1 : Int) ≠ 0; omega)⟩, ?_, by show 1 ≤ 1; omega, fun i hi => by omega⟩
    · have : x = 1 := by simpa [Pw] using hx
      rw [this]
      exact ⟨by omega, H.pos⟩
    · show pl K [1] = _
      rw [pl_one_item, ic_one, Semiring.pow_zero]
      rfl
  | n + 1, hn => by
    obtain ⟨h1, h2, h3, _⟩ := pw_ok H hp a ha la n (by omega)
    obtain ⟨l, e1, e2, e3, e4⟩ := m__law_times_ok H (Pw a p n) a (nat_small hp h1.1) (by omega) (by omega)
    have z : Pw a p (n + 1) = l := by
      show getR (m__law_times (Pw a p n) a p) = l
      rw [e1]
      rfl
    rw [z]
    refine ⟨e2, by rw [e3, h2, Semiring.pow_succ], by omega, fun i hi => ?_⟩
    have : i = n := by omega
    rw [this]
    exact e1
def Fw (a c : List Int) (p : Int) (n : Nat) : List Int := match m_divide_rows (Pw a p n) c p with
  | .ok r => r.2
  | _ => []
theorem fw_ok (H : Ch K p) (hp : p ≤ 1000) (I : InvOk p) (a c : List Int) (ha : nrm p a) (la : a.length ≤ 5) (hc : nrm p c) (c0 : c ≠ []) (lc : c.length ≤ 5) (n : Nat) (hn : n ≤ 20) : ∃ q, m_divide_rows (Pw a p n) c p = .ok (q, Fw a c p n) ∧ nrm p (Fw a c p n) ∧ (Fw a c p n).length < c.length ∧ (pl K a) ^ n = pl K q * pl K c + pl K (Fw a c p n) := by
  obtain ⟨h1, h2, h3, _⟩ := pw_ok (K := K) H hp a ha la n hn
  obtain ⟨q, r, e1, e2, e3, e4, e5, e6⟩ := m_divide_rows_ok H hp I (Pw a p n) c h1.1 hc c0 (by omega) (by omega)
  have z : Fw a c p n = r := by unfold Fw; rw [e1]
  rw [z]
  exact ⟨q, e1, e3, e4, by rw [← h2]; exact e5⟩
theorem pow_add' (f : PS K) (i : Nat) : ∀ j, f ^ (i + j) = f ^ i * f ^ j
  | 0 => by rw [Nat.add_zero, Semiring.pow_zero]; grind
  | j + 1 => by rw [← Nat.add_assoc, Semiring.pow_succ, Semiring.pow_succ, pow_add' f i j]; grind
theorem lam_ok (H : Ch K p) (hp : p ≤ 1000) (I : InvOk p) (a c : List Int) (ha : nrm p a) (la : a.length ≤ 5) (hc : nrm p c) (c0 : c ≠ []) (lc : c.length ≤ 5) (i j : Nat) (h : i + j ≤ 20) : m_lam1 c p (Fw a c p i) (Fw a c p j) = .ok (Fw a c p (i + j)) := by
  obtain ⟨q1, _, a2, a3, a4⟩ := fw_ok H hp I a c ha la hc c0 lc i (by omega)
  obtain ⟨q2, _, b2, b3, b4⟩ := fw_ok H hp I a c ha la hc c0 lc j (by omega)
  obtain ⟨q3, _, c2, c3, c4⟩ := fw_ok H hp I a c ha la hc c0 lc (i + j) h
  obtain ⟨l, e1, e2, e3, e4⟩ := m_multiply_rows_ok H (Fw a c p i) (Fw a c p j) (nat_small hp a2.1) (by omega) (by omega)
  obtain ⟨q, r, f1, f2, f3, f4, f5, f6⟩ := m_divide_rows_ok H hp I l c e2.1 hc c0 (by omega) (by omega)
  unfold m_lam1
  rw [e1, show noEr (R.ok l) = R.ok l from rfl, R.bind_ok, f1, R.bind_ok]
  congr 1
  refine rem_eq H hc c0 f3 c2 f4 c3 (fin_pl q) (q' := pl K q3 - pl K q1 * pl K q2 * pl K c - pl K q1 * pl K (Fw a c p j) - pl K q2 * pl K (Fw a c p i)) ?_ f5 ?_
  · exact (((fin_pl q3).sub (((fin_pl q1).mul (fin_pl q2)).mul (fin_pl c))).sub ((fin_pl q1).mul (fin_pl _))).sub ((fin_pl q2).mul (fin_pl _))
  · rw [e3]
    have z := pow_add' (pl K a) i j
    rw [a4, b4, c4] at z
    grind
theorem power_ok (H : Ch K p) (hp : p ≤ 1000) (I : InvOk p) (a c : List Int) (ha : nrm p a) (la : a.length ≤ 5) (hc : nrm p c) (lc2 : 2 ≤ c.length) (lc : c.length ≤ 5) (k : Int) (k0 : 0 ≤ k) (k1 : k ≤ 20) : m_power_row a k c p = .ok (Fw a c p k.toNat) := by
  have c0 : c ≠ [] := fun e => by rw [e] at lc2; exact absurd lc2 (by show ¬ 2 ≤ 0; omega)
  have one : nrm p [1] := ⟨fun x hx => by
    have : x = 1 := by simpa using hx
    rw [this]
    exact ⟨by omega, H.pos⟩, .inr (by show (1 : Int) ≠ 0; omega)⟩
  have F0 : Fw a c p 0 = [1] := by
    obtain ⟨q, _, a2, a3, a4⟩ := fw_ok H hp I a c ha la hc c0 lc 0 (by omega)
    refine rem_eq H hc c0 a2 one a3 (by show 1 < c.length; omega) (fin_pl q) fin_zero a4 ?_
    rw [Semiring.pow_zero, pl_one_item, ic_one]
    show (1 : PS K) = 0 * pl K c + C 1
    have : (C 1 : PS K) = 1 := rfl
    rw [this]
    grind
  have P1 : Pw a p 1 = a := by
    obtain ⟨h1, h2, _⟩ := pw_ok (K := K) H hp a ha la 1 (by omega)
    refine nrm_uniq H h1 ha ?_
    rw [h2, show (1 : Nat) = 0 + 1 from rfl, Semiring.pow_succ, Semiring.pow_zero]
    grind
  obtain ⟨q, e1, _⟩ := fw_ok H hp I a c ha la hc c0 lc 1 (by omega)
  rw [P1] at e1
  have bs := m_by_squaring_F (Fw a c p) (m_lam1 c p) k (fun i j h => lam_ok H hp I a c ha la hc c0 lc i j (by omega)) k0 (by omega)
  unfold m_power_row
  rw [e1, R.bind_ok, ← F0, bs, R.bind_ok]
end
end Pf
set_option Elab.async false
set_option linter.all false
set_option maxRecDepth 100000
namespace Pf
open PySem PySem.Spec PyProof.Rows L2 Mir Pol
theorem state_ok (ns : List Int) : ∃ s t, m__law_state ns = .ok [s, t] := by
  obtain ⟨p, e⟩ := foldR_ok (f := m__law_state_b1) (fun s x => ⟨_, rfl⟩) (cutT ns none (some 63)) (0, 1)
  refine ⟨p.1, p.2, ?_⟩
  unfold m__law_state
  rw [e]
  rfl
theorem take_ok (s t m : Int) (h0 : 0 < m) (h1 : m < 1073741824) : ∃ v s' t', m__law_take [s, t] m = .ok (v, [s', t']) ∧ 0 ≤ v ∧ v < m := by
  by_cases hs : 0 < s
  · refine ⟨s % m, s / m, t, ?_, Int.emod_nonneg _ (by omega), Int.emod_lt_of_pos _ h0⟩
    have g : getL [s, t] 0 = .ok s := rfl
    have st : setL [s, t] 0 (s / m) = .ok [s / m, t] := rfl
    simp only [m__law_take, g, st, R.bind_ok, hs, decide_true, if_true, grd_ok h0, grd_ok (show CDiv s m from ⟨h0, h1⟩)]
  · refine ⟨(t * 48271 + 11) % 2147483647 / 7 % m, s, (t * 48271 + 11) % 2147483647, ?_, Int.emod_nonneg _ (by omega), Int.emod_lt_of_pos _ h0⟩
    have g : getL [s, t] 0 = .ok s := rfl
    have g1 : getL [s, t] 1 = .ok t := rfl
    have st : ∀ y, setL [s, t] 1 y = .ok [s, y] := fun y => rfl
    have g2 : ∀ y, getL [s, y] 1 = .ok y := fun y => rfl
    simp only [m__law_take, g, g1, g2, st, R.bind_ok, hs, decide_false, if_false, grd_ok h0, Bool.false_eq_true]

section
open Lean.Grind
theorem ch_fin (n : Nat) [NeZero n] (hn : 1 < n) (nz : ∀ a b : Fin n, a * b = 0 → a = 0 ∨ b = 0) : Ch (Fin n) (n : Int) := ⟨by omega, fun x y => IsCharP.intCast_ext_iff n, nz⟩
def invB (p : Nat) : Bool := (List.range p).all fun x => x == 0 || match m_inverse_modulo (x : Int) (p : Int) with
  | .ok f => decide (0 ≤ f) && decide (f < p) && decide ((x : Int) * f % p = 1)
  | _ => false
theorem inv_of {p : Nat} (h : invB p = true) : InvOk (p : Int) := fun x hx n => by
  have q := List.all_eq_true.mp h x.toNat (List.mem_range.mpr (by have := hx.1; have := hx.2; omega))
  have e : ((x.toNat : Nat) : Int) = x := by have := hx.1; omega
  rw [e] at q
  have z : (x.toNat == 0) = false := by
    rw [beq_eq_false_iff_ne]
    have := hx.1
    omega
  rw [z, Bool.false_or] at q
  revert q
  cases m_inverse_modulo x (p : Int) with
  | ok f =>
    intro q
    simp only [Bool.and_eq_true, decide_eq_true_eq] at q
    exact ⟨f, rfl, ⟨q.1.1, q.1.2⟩, q.2⟩
  | er _ => intro q; cases q
  | out => intro q; cases q
structure Prm (p : Int) : Prop where
  le : p ≤ 13
  inv : InvOk p
  ex : ∃ (K : Type) (_ : CommRing K), Ch K p
theorem prm (v : Int) (h0 : 0 ≤ v) (h1 : v < 6) : ∃ p, getL [(2 : Int), 3, 5, 7, 11, 13] v = .ok p ∧ Prm p := by
  have e : v = 0 ∨ v = 1 ∨ v = 2 ∨ v = 3 ∨ v = 4 ∨ v = 5 := by omega
  rcases e with rfl | rfl | rfl | rfl | rfl | rfl
  · exact ⟨2, rfl, by decide, inv_of (p := 2) (by decide +kernel), Fin 2, inferInstance, ch_fin 2 (by decide) (by decide +kernel)⟩
  · exact ⟨3, rfl, by decide, inv_of (p := 3) (by decide +kernel), Fin 3, inferInstance, ch_fin 3 (by decide) (by decide +kernel)⟩
  · exact ⟨5, rfl, by decide, inv_of (p := 5) (by decide +kernel), Fin 5, inferInstance, ch_fin 5 (by decide) (by decide +kernel)⟩
  · exact ⟨7, rfl, by decide, inv_of (p := 7) (by decide +kernel), Fin 7, inferInstance, ch_fin 7 (by decide) (by decide +kernel)⟩
  · exact ⟨11, rfl, by decide, inv_of (p := 11) (by decide +kernel), Fin 11, inferInstance, ch_fin 11 (by decide) (by decide +kernel)⟩
  · exact ⟨13, rfl, by decide, inv_of (p := 13) (by decide +kernel), Fin 13, inferInstance, ch_fin 13 (by decide) (by decide +kernel)⟩
end
/-! ### the drawn rows -/
theorem draw_in : ∀ (xs : List Int) (acc : List Int) (s t : Int), acc.length + xs.length ≤ 900 → ∃ l s' t', foldR m_law_b1 (acc, [s, t]) xs = .ok (acc ++ l, [s', t']) ∧ l.length = xs.length
  | [], acc, s, t, _ => ⟨[], s, t, by rw [List.append_nil]; rfl, rfl⟩
  | x :: xs, acc, s, t, h => by
    have h' : acc.length + (xs.length + 1) ≤ 900 := h
    obtain ⟨v, s1, t1, e1, a1, b1⟩ := take_ok s t 41 (by decide) (by decide)
    obtain ⟨l, s2, t2, e2, e3⟩ := draw_in xs (acc ++ [v - 20]) s1 t1 (by rw [List.length_append]; show acc.length + 1 + _ ≤ _; omega)
    refine ⟨(v - 20) :: l, s2, t2, ?_, by show l.length + 1 = xs.length + 1; omega⟩
    show (m_law_b1 (acc, [s, t]) x).bind _ = _
    have e : m_law_b1 (acc, [s, t]) x = .ok (acc ++ [v - 20], [s1, t1]) := by
      unfold m_law_b1
      dsimp only
      rw [e1, R.bind_ok, grd_ok (lenLt_small (by omega))]
    rw [e, R.bind_ok, e2, List.append_assoc]
    rfl
theorem draw_row (acc : List (List Int)) (s t x : Int) (h : acc.length ≤ 900) : ∃ l s' t', m_law_b2 (acc, [s, t]) x = .ok (acc ++ [l], [s', t']) ∧ l.length ≤ 5 := by
  obtain ⟨v, s1, t1, e1, a1, b1⟩ := take_ok s t 6 (by decide) (by decide)
  obtain ⟨l, s2, t2, e2, e3⟩ := draw_in (rng 0 v.toNat) [] s1 t1 (by rw [rng_length]; show 0 + _ ≤ _; omega)
  rw [rng_length] at e3
  refine ⟨l, s2, t2, ?_, by omega⟩
  unfold m_law_b2
  dsimp only
  rw [e1, R.bind_ok, grd_ok (show rgOk v by unfold rgOk; omega), e2, R.bind_ok, grd_ok (lenLt_small (by omega))]
  rfl
theorem draw_rows (s t : Int) : ∃ a b c s' t', foldR m_law_b2 ([], [s, t]) (rng 0 3) = .ok ([a, b, c], [s', t']) ∧ a.length ≤ 5 ∧ b.length ≤ 5 ∧ c.length ≤ 5 := by
  obtain ⟨a, s1, t1, e1, l1⟩ := draw_row [] s t 0 (by show 0 ≤ 900; omega)
  obtain ⟨b, s2, t2, e2, l2⟩ := draw_row [a] s1 t1 1 (by show 1 ≤ 900; omega)
  obtain ⟨c, s3, t3, e3, l3⟩ := draw_row [a, b] s2 t2 2 (by show 2 ≤ 900; omega)
  refine ⟨a, b, c, s3, t3, ?_, l1, l2, l3⟩
  show (m_law_b2 ([], [s, t]) 0).bind _ = _
  rw [e1, R.bind_ok]
  show (m_law_b2 ([a], [s1, t1]) 1).bind _ = _
  rw [e2, R.bind_ok]
  show (m_law_b2 ([a, b], [s2, t2]) 2).bind _ = _
  rw [e3, R.bind_ok]
  rfl
theorem trims (p : Int) (p0 : 0 < p) (a b c : List Int) (la : a.length ≤ 5) (lb : b.length ≤ 5) (lc : c.length ≤ 5) : foldR (m_law_b3 p) [] [a, b, c] = .ok [tr p a, tr p b, tr p c] ∧ foldR (m_law_b4 p) [] [a, b, c] = .ok [tr p a, tr p b, tr p c] := by
  have hl : ∀ x ∈ [a, b, c], x.length ≤ 5 := fun x hx => by
    simp only [List.mem_cons, List.not_mem_nil, or_false] at hx
    rcases hx with rfl | rfl | rfl <;> assumption
  exact ⟨fold_map (f := m_law_b3 p) (g := tr p) [a, b, c] [] (fun s x hs hx => by
      unfold m_law_b3
      rw [m_trimmed_ok x p p0 (by have := hl x hx; omega), R.bind_ok, grd_ok (lenLt_small hs)]) (by show 0 + 3 ≤ 1000; omega),
    fold_map (f := m_law_b4 p) (g := tr p) [a, b, c] [] (fun s x hs hx => by
      unfold m_law_b4
      rw [m__law_trim_ok x p p0 (by have := hl x hx; omega), R.bind_ok, grd_ok (lenLt_small hs)]) (by show 0 + 3 ≤ 1000; omega)⟩
theorem pad_rng (x : List Int) (n : Nat) (hx : x.length ≤ 400) (hn : n ≤ 400) : foldR m_law_b5 [] (rng 0 ((n : Int) - (x.length : Int)).toNat) = .ok (List.replicate (n - x.length) 0) := by
  rw [fold_map (f := m_law_b5) (g := fun _ => (0 : Int)) _ [] (fun s y hs _ => by unfold m_law_b5; rw [grd_ok (lenLt_small hs)]) (by rw [rng_length]; show 0 + _ ≤ 1000; omega), List.nil_append, rng_map, show ((n : Int) - (x.length : Int)).toNat = n - x.length by omega]
theorem pads (a b c : List Int) (la : a.length ≤ 400) (lb : b.length ≤ 400) : foldR (m_law_b6 (a, b, c)) [] [a, b] = .ok [pad a (max a.length b.length), pad b (max a.length b.length)] := by
  have m : pmax (a.length : Int) (b.length : Int) = ((max a.length b.length : Nat) : Int) := by unfold pmax; split <;> omega
  have hl : ∀ x ∈ [a, b], x.length ≤ 400 := fun x hx => by
    simp only [List.mem_cons, List.not_mem_nil, or_false] at hx
    rcases hx with rfl | rfl <;> assumption
  exact fold_map (f := m_law_b6 (a, b, c)) (g := fun x => pad x (max a.length b.length)) [a, b] [] (fun s x hs hx => by
    have hx' := hl x hx
    unfold m_law_b6
    dsimp only
    rw [m, grd_ok (show rgOk (((max a.length b.length : Nat) : Int) - (x.length : Int)) by unfold rgOk; omega), pad_rng x _ hx' (by omega), R.bind_ok, grd_ok (lenOk_small (by rw [List.length_append, List.length_replicate]; omega)), grd_ok (lenLt_small hs)]
    rfl) (by show 0 + 2 ≤ 1000; omega)
theorem pad_neg (l : List Int) (n : Nat) : pad (l.map fun x => -x) n = (pad l n).map fun x => -x := by
  unfold pad
  rw [List.map_append, List.length_map, List.map_replicate]
  rfl
theorem zip_sub (a b : List Int) : (a.zip (b.map fun x => -x)).map (fun x => x.1 + x.2) = (a.zip b).map fun x => x.1 - x.2 := by
  rw [List.zip_map_right, List.map_map]
  refine List.map_congr_left fun x _ => ?_
  show x.1 + -x.2 = x.1 - x.2
  omega
theorem sub_ok (a b : List Int) (p : Int) (p0 : 0 < p) (ha : a.length ≤ 400) (hb : b.length ≤ 400) : m_subtract_rows a b p = .ok (tr p (((pad a (max a.length b.length)).zip (pad b (max a.length b.length))).map fun x => x.1 - x.2)) := by
  unfold m_subtract_rows
  rw [fold_map (f := m_subtract_rows_b1) (g := fun x => -x) b [] (fun s x hs _ => by unfold m_subtract_rows_b1; rw [grd_ok (lenLt_small hs)]) (by show 0 + _ ≤ 1000; omega), R.bind_ok, List.nil_append, m_add_rows_2_ok a _ p p0 ha (by rw [List.length_map]; exact hb), R.bind_ok, List.length_map, pad_neg, zip_sub]
section
open Lean.Grind
theorem refused_ok (a : List Int) (p : Int) : m__law_refused a p = .ok true := rfl
theorem pow_fold {K : Type} [CommRing K] {p : Int} (H : Ch K p) (hp : p ≤ 1000) (a b c : List Int) (ha : nrm p a) (la : a.length ≤ 5) : ∀ (xs : List Int) (i : Nat), i + xs.length ≤ 20 → foldR (m_law_b9 p (a, b, c)) (Pw a p i) xs = .ok (Pw a p (i + xs.length))
  | [], i, _ => rfl
  | x :: xs, i, h => by
    have h' : i + (xs.length + 1) ≤ 20 := h
    obtain ⟨_, _, _, e⟩ := pw_ok (K := K) H hp a ha la (i + 1) (by omega)
    show (m_law_b9 p (a, b, c) (Pw a p i) x).bind _ = _
    have e1 : m_law_b9 p (a, b, c) (Pw a p i) x = .ok (Pw a p (i + 1)) := by
      unfold m_law_b9
      dsimp only
      rw [e i rfl, R.bind_ok]
    rw [e1, R.bind_ok, pow_fold H hp a b c ha la xs (i + 1) (by omega)]
    congr 2
    show i + 1 + xs.length = i + (xs.length + 1)
    omega
theorem rest_nil {K : Type} [CommRing K] {p : Int} (H : Ch K p) (hp : p ≤ 1000) (f g : List Int) (hg : nrm p g) (g0 : g ≠ []) (mono : g.getD (g.length - 1) 0 = 1) (lf : f.length ≤ 400) (lg : g.length ≤ 400) (D : Dv (pl K g) (pl K f)) : m__law_rest f g p = .ok [] := by
  obtain ⟨r, e1, e2, e3, u, e4, e5⟩ := rest_ok (K := K) H hp f g g0 mono lf lg
  obtain ⟨v, v1, v2⟩ := D
  rw [e1]
  congr 1
  have n0 : nrm p [] := ⟨fun x hx => absurd hx (by simp), .inl rfl⟩
  refine rem_eq H hg g0 e2 n0 e3 (List.length_pos_iff.mpr g0) e4 v1 e5 ?_
  rw [plN, v2]
  grind
theorem div_nil {K : Type} [CommRing K] {p : Int} (H : Ch K p) (hp : p ≤ 1000) (I : InvOk p) (f g : List Int) (hf : nrm p f) (hg : nrm p g) (g0 : g ≠ []) (lf : f.length ≤ 400) (lg : g.length ≤ 400) (D : Dv (pl K g) (pl K f)) : ∃ q, m_divide_rows f g p = .ok (q, []) := by
  obtain ⟨q, r, e1, e2, e3, e4, e5, e6⟩ := m_divide_rows_ok (K := K) H hp I f g hf.1 hg g0 lf lg
  obtain ⟨v, v1, v2⟩ := D
  have n0 : nrm p [] := ⟨fun x hx => absurd hx (by simp), .inl rfl⟩
  have z : r = [] := rem_eq H hg g0 e3 n0 e4 (List.length_pos_iff.mpr g0) (fin_pl q) v1 e5 (by rw [plN, v2]; grind)
  rw [z] at e1
  exact ⟨q, e1⟩
theorem dec_self {α : Type} (i : DecidableEq α) (x : α) : @decide (x = x) (i x x) = true := @decide_eq_true _ (i x x) rfl
theorem law_true (ns : List Int) (_ : ns.length ≤ 63) : m_law ns = .ok true := by
  obtain ⟨s, t, e0⟩ := state_ok ns
  obtain ⟨v1, s1, t1, e1, a1, b1⟩ := take_ok s t 6 (by decide) (by decide)
  obtain ⟨p, e2, Pp⟩ := prm v1 a1 b1
  obtain ⟨K, inst, H⟩ := Pp.ex
  have I := Pp.inv
  have hp : p ≤ 1000 := by have := Pp.le; omega
  have p0 : 0 < p := by have := H.pos; omega
  obtain ⟨ra, rb, rc, s2, t2, e3, la, lb, lc⟩ := draw_rows s1 t1
  obtain ⟨f1, f2⟩ := trims p p0 ra rb rc la lb lc
  have na := tr_nrm p0 ra
  have nb := tr_nrm p0 rb
  have nc := tr_nrm p0 rc
  have la' : (tr p ra).length ≤ 5 := by have := tr_len p ra; omega
  have lb' : (tr p rb).length ≤ 5 := by have := tr_len p rb; omega
  have lc' : (tr p rc).length ≤ 5 := by have := tr_len p rc; omega
  unfold m_law
  rw [e0, R.bind_ok, e1, R.bind_ok]
  dsimp only
  rw [e2, R.bind_ok, grd_ok (show rgOk 3 by unfold rgOk; omega), show (3 : Int).toNat = 3 from rfl, e3, R.bind_ok]
  dsimp only
  rw [f1, R.bind_ok, show un3 [tr p ra, tr p rb, tr p rc] = .ok (tr p ra, tr p rb, tr p rc) from rfl, R.bind_ok, f2]
  dsimp only
  rw [R.bind_ok, decide_eq_true (rfl : [tr p ra, tr p rb, tr p rc] = [tr p ra, tr p rb, tr p rc]), show getL [ra, rb, rc] 0 = .ok ra from rfl, R.bind_ok, m_trimmed_2_ok ra p p0 (by omega), R.bind_ok, decide_eq_true (rfl : tr p ra = tr p ra)]
  rw [show orR (R.ok (!true)) (R.ok (!true)) = .ok false from rfl, R.bind_ok, if_neg (by decide)]
  generalize tr p ra = a at na la'
  generalize tr p rb = b at nb lb'
  generalize tr p rc = c at nc lc'
  have hz : ((pad a (max a.length b.length)).zip (pad b (max a.length b.length))).length ≤ 400 := by
    rw [List.length_zip, pad_len _ _ (by omega), pad_len _ _ (by omega)]
    omega
  rw [pads a b c (by omega) (by omega), R.bind_ok, m_add_rows_ok a b p p0 (by omega) (by omega), R.bind_ok]
  rw [show getL [pad a (max a.length b.length), pad b (max a.length b.length)] 0 = .ok (pad a (max a.length b.length)) from rfl, R.bind_ok, show getL [pad a (max a.length b.length), pad b (max a.length b.length)] 1 = .ok (pad b (max a.length b.length)) from rfl, R.bind_ok]
  rw [fold_map (f := m_law_b7) (g := fun x => x.1 + x.2) _ [] (fun s x hs _ => by unfold m_law_b7; rw [grd_ok (lenLt_small hs)]) (by show 0 + _ ≤ 1000; omega), R.bind_ok, List.nil_append, m__law_trim_2_ok _ p p0 (by rw [List.length_map]; omega), R.bind_ok]
  rw [dec_self, if_neg (by decide), sub_ok a b p p0 (by omega) (by omega), R.bind_ok, R.bind_ok, R.bind_ok]
  rw [fold_map (f := m_law_b8) (g := fun x => x.1 - x.2) _ [] (fun s x hs _ => by unfold m_law_b8; rw [grd_ok (lenLt_small hs)]) (by show 0 + _ ≤ 1000; omega), R.bind_ok, List.nil_append, m__law_trim_2_ok _ p p0 (by rw [List.length_map]; omega), R.bind_ok]
  obtain ⟨m1, g1, g2, g3, g4⟩ := m_multiply_rows_ok H a b (nat_small hp na.1) (by omega) (by omega)
  obtain ⟨m2, h1, h2, h3, h4⟩ := m__law_times_ok H a b (nat_small hp na.1) (by omega) (by omega)
  have m12 : m1 = m2 := nrm_uniq H g2 h2 (g3.trans h3.symm)
  subst m12
  rw [dec_self, g1, R.bind_ok, h1, R.bind_ok, dec_self, show orR (R.ok (!true)) (R.ok (!true)) = .ok false from rfl, R.bind_ok, if_neg (by decide), refused_ok, R.bind_ok, if_neg (by decide)]
  obtain ⟨A, A1, A2, A3, A4⟩ := m__law_times_ok H a c (nat_small hp na.1) (by omega) (by omega)
  obtain ⟨B, B1, B2, B3, B4⟩ := m__law_times_ok H b c (nat_small hp nb.1) (by omega) (by omega)
  obtain ⟨g, c1, c2, c3, c4, c5⟩ := common_ok (K := K) H hp I A B A2 B2 (by omega) (by omega)
  rw [A1, R.bind_ok, B1, R.bind_ok, c1, R.bind_ok]
  by_cases g0 : g = []
  · subst g0
    rw [decide_eq_true (show ((([] : List Int).length : Nat) : Int) = 0 from rfl), if_pos rfl]
    have z := (c4 0).mp (by rw [plN]; exact Dv.zero 0)
    have z0 : ∀ f : PS K, Dv 0 f → f = 0 := fun f ⟨u, _, e⟩ => by rw [e]; grind
    have za := prod_zero H na nc (A3.symm.trans (z0 _ z.1))
    have zb := prod_zero H nb nc (B3.symm.trans (z0 _ z.2))
    by_cases c0 : c = []
    · rw [c0]
      generalize decide ((a.length : Int) = 0) = u1
      generalize decide ((b.length : Int) = 0) = u2
      cases u1 <;> cases u2 <;> rfl
    · rw [za.resolve_right c0, zb.resolve_right c0]
      rfl
  · have lg : 0 < g.length := List.length_pos_iff.mpr g0
    have mono := c3.resolve_left g0
    have D := (c4 (pl K g)).mp (Dv.refl _)
    have c0 : c ≠ [] := fun e => by
      have zA : pl K A = 0 := by rw [A3, e, plN]; grind
      have zB : pl K B = 0 := by rw [B3, e, plN]; grind
      have zg := (c4 0).mpr ⟨by rw [zA]; exact Dv.zero 0, by rw [zB]; exact Dv.zero 0⟩
      obtain ⟨u, _, eu⟩ := zg
      have n0 : nrm p [] := ⟨fun x hx => absurd hx (by simp), .inl rfl⟩
      exact g0 (nrm_uniq H c2 n0 (by rw [eu, plN]; grind))
    have lc0 : 0 < c.length := List.length_pos_iff.mpr c0
    rw [decide_eq_false (show ¬ ((g.length : Int) = 0) by omega), if_neg (by decide), getL_int (l := g) (by omega) (by omega), R.bind_ok, show ((g.length : Int) - 1).toNat = g.length - 1 by omega, mono, R.bind_ok, rest_nil H hp A g c2 g0 mono (by omega) (by omega) D.1, R.bind_ok, R.bind_ok, rest_nil H hp B g c2 g0 mono (by omega) (by omega) D.2, R.bind_ok]
    rw [show orR (R.ok (!decide ((1 : Int) = 1))) (orR (R.ok (decide ((0 : Int) < (([] : List Int).length : Int)))) (R.ok (decide ((0 : Int) < (([] : List Int).length : Int))))) = .ok false from rfl, R.bind_ok, if_neg (by decide)]
    have Dc : Dv (pl K c) (pl K g) := (c4 (pl K c)).mpr ⟨⟨pl K a, fin_pl a, A3⟩, ⟨pl K b, fin_pl b, B3⟩⟩
    obtain ⟨q0, d1⟩ := div_nil H hp I g c c2 nc c0 (by omega) (by omega) Dc
    rw [d1, R.bind_ok]
    dsimp only
    rw [show decide ((0 : Int) < (([] : List Int).length : Int)) = false from rfl, if_neg (by decide)]
    obtain ⟨q, r, r1, r2, r3, r4, r5, r6⟩ := m_divide_rows_ok (K := K) H hp I a c na.1 nc c0 (by omega) (by omega)
    obtain ⟨m, k1, k2, k3, k4⟩ := m__law_times_ok H q c (nat_small hp r2.1) (by omega) (by omega)
    rw [r1, R.bind_ok]
    dsimp only
    rw [decide_eq_false (show ¬ ((c.length : Int) ≤ (r.length : Int)) by omega), k1, R.bind_ok, m_add_rows_ok m r p p0 (by omega) (by omega), R.bind_ok, tr_of H na (by rw [pl_add, k3, r5]), dec_self, show orR (R.ok false) (R.ok (!true)) = .ok false from rfl, R.bind_ok, if_neg (by decide)]
    by_cases c2' : (c.length : Int) < 2
    · rw [decide_eq_true c2', if_pos rfl]
    · rw [decide_eq_false c2', if_neg (by decide)]
      obtain ⟨k, s3, t3, u1, u2, u3⟩ := take_ok s2 t2 10 (by decide) (by decide)
      obtain ⟨q3, w1, _⟩ := fw_ok (K := K) H hp I a c na la' nc c0 lc' k.toNat (by omega)
      have pf := pow_fold (K := K) H hp a b c na la' (rng 0 k.toNat) 0 (by rw [rng_length]; omega)
      rw [rng_length, Nat.zero_add] at pf
      rw [u1, R.bind_ok]
      dsimp only
      have pf' : foldR (m_law_b9 p (a, b, c)) [1] (rng 0 k.toNat) = .ok (Pw a p k.toNat) := pf
      rw [grd_ok (show rgOk k by unfold rgOk; omega), pf', R.bind_ok, power_ok H hp I a c na la' nc (by omega) lc' k u2 (by omega), R.bind_ok, w1, R.bind_ok]
      exact congrArg R.ok (dec_self _ _)
end
end Pf

open PySem PySem.W PyProof.Rows
set_option maxRecDepth 100000 in
set_option maxHeartbeats 0 in
theorem PySem.Challenge.cw_fieldmaps_k06_rows_modulo_a_prime_holds : PySem.Challenge.rw_fieldmaps_k06_rows_modulo_a_prime.Holds := by
  w_on; o_law; k_head; (case hw => w_witness2)
  k_fill
  refine LamX.walk_ofTs (l := PySem.Challenge.rw_fieldmaps_k06_rows_modulo_a_prime) (n := 63) (k := 7) (x := "script") (CX := fun _ => L2.CX0) rfl (by decide) rfl ⟨rfl, by decide, by decide⟩ (fun w h Y => km_in_of Y) ?F (fun _ _ _ _ _ h => h)
  case F =>
    intro w mg fa h Y KX G hmg
    refine' Pf.all_mk KX G hmg ?a1 ?l1 ?c1 ?k1 ?a2 ?l2 ?c2 ?k2 ?a3 ?l3 ?c3 ?k3 ?a4 ?l4 ?c4 ?k4 ?a5 ?l5 ?c5 ?k5 ?a6 ?l6 ?c6 ?k6 ?a7 ?l7 ?c7 ?k7 ?a8 ?l8 ?c8 ?k8 ?a9 ?l9 ?c9 ?k9 ?a10 ?l10 ?c10 ?k10 ?a11 ?l11 ?c11 ?k11 ?a12 ?l12 ?c12 ?k12 ?a13 ?l13 ?c13 ?k13 ?a14 ?l14 ?c14 ?k14 ?a15 ?l15 ?c15 ?k15 ?a16 ?l16 ?c16 ?k16 ?a17 ?l17 ?c17 ?k17 ?a18 ?l18 ?c18 ?k18 ?a19 ?l19 ?c19 ?k19 ?z_abs ?z_int ?z_len ?z_tuple ?z_max ?z_zip ?z_enumerate ?z_range ?z_list ?z_reversed ?z_ValueError ?z_isinstance ?gn_fault ?gn_zd ?xx_zd ?xk_zd ?xb_zd ?xt_zd ?ed_zd ?ss_zd_zd ?eg_zd ?ek_zd ?ea_zd ?en ?et ?em_zd ?st_zd_ValueError ?q18 ?p18 ?h18 ?u18 ?v18 ?hmath
    (case a1 => k_is); (case l1 => k_is); (case c1 => k_is); (case k1 => k_is); (case a2 => k_is); (case l2 => k_is); (case c2 => k_is); (case k2 => k_is); (case a3 => k_is); (case l3 => k_is); (case c3 => k_is); (case k3 => k_is); (case a4 => k_is); (case l4 => k_is); (case c4 => k_is); (case k4 => k_is); (case a5 => k_is); (case l5 => k_is); (case c5 => k_is); (case k5 => k_is); (case a6 => k_is); (case l6 => k_is); (case c6 => k_is); (case k6 => k_is); (case a7 => k_is); (case l7 => k_is); (case c7 => k_is); (case k7 => k_is); (case a8 => k_is); (case l8 => k_is); (case c8 => k_is); (case k8 => k_is); (case a9 => k_is); (case l9 => k_is); (case c9 => k_is); (case k9 => k_is); (case a10 => k_is); (case l10 => k_is); (case c10 => k_is); (case k10 => k_is); (case a11 => k_is); (case l11 => k_is); (case c11 => k_is); (case k11 => k_is); (case a12 => k_is); (case l12 => k_is); (case c12 => k_is); (case k12 => k_is); (case a13 => k_is); (case l13 => k_is); (case c13 => k_is); (case k13 => k_is); (case a14 => k_is); (case l14 => k_is); (case c14 => k_is); (case k14 => k_is); (case a15 => k_is); (case l15 => k_is); (case c15 => k_is); (case k15 => k_is); (case a16 => k_is); (case l16 => k_is); (case c16 => k_is); (case k16 => k_is); (case a17 => k_is); (case l17 => k_is); (case c17 => k_is); (case k17 => k_is); (case a18 => k_is); (case l18 => k_is); (case c18 => k_is); (case k18 => k_is); (case a19 => k_is); (case l19 => k_is); (case c19 => k_is); (case k19 => k_is); (case z_abs => k_is); (case z_int => k_is); (case z_len => k_is); (case z_tuple => k_is); (case z_max => k_is); (case z_zip => k_is); (case z_enumerate => k_is); (case z_range => k_is); (case z_list => k_is); (case z_reversed => k_is); (case z_ValueError => k_is); (case z_isinstance => k_is); (case gn_fault => k_is); (case gn_zd => k_is); (case xx_zd => k_exc); (case xk_zd => k_is); (case xb_zd => k_is); (case xt_zd => k_is); (case ed_zd => k_is); (case ss_zd_zd => k_is); (case eg_zd => k_is); (case ek_zd => k_is); (case ea_zd => k_is); (case en => k_is); (case et => k_is); (case em_zd => k_is); (case st_zd_ValueError => k_is); (case q18 => k_is); (case p18 => rfl); (case h18 => kernel_rfl); (case u18 => kernel_rfl); (case v18 => exact km_tabs_of Y _ (by k_mem)); (case hmath => exact Pf.law_true)
