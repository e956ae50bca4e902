import PyProof.Rows.All
import Wide.All
import OpenK.AllK
import Wide.FinOn
import HandS.ForMost
import HandS.Evl
import HandS.Lambda
import HandS.IsInst
import HandS.Walk
import HandS.Conv
import KE.KBits
import HandS.WideBits
import HandS.More
import HandS.OwnEq
import PyProof.InstNe
import HandS.Exc
import HandS.ExcOwn
import HandS.TryOnly
import HandS.SortInts
import HandS.TupAny
import HandS.Deep
import HandS.Style
import PyProof.ExcBaseAll.ValueError
import HandS.TryMany
import HandS.ExcInit
import HandS.ExcField
import HandS.TupLe
import HandS.Nested
import HandS.EndTab
import PySem.Challenge.RW_orderforms_k14_partings_recognised
set_option Elab.async false
set_option linter.all false
set_option maxRecDepth 100000
set_option maxHeartbeats 1000000
/-! Fo0: what stays from one heap to the next: all but tables of code objects, which may grow -/
namespace Fo
open PySem PySem.Spec PyProof.Rows L2
open LamX (TabS CodeO)
open Evl (ixN_nat)
/-- which name the code objects of a table bear -/
class Nm where
  nm : Addr → Str
  inj : ∀ a b, nm a = nm b → nm a ≠ ("" : Str) → a = b
variable [Nm]
def notT : HO → Bool
  | .tbl _ => false
  | _ => true
def notC : HO → Bool
  | .tbl _ => false
  | .ext _ => false
  | _ => true
theorem notC_T {o : HO} (h : notC o = true) : notT o = true := by
  cases o <;> first | rfl | cases h
structure Ex (H H2 : Hp) : Prop where
  g : ∀ a o, H a = some o → notT o = true → H2 a = some o
  k : ∀ a ps, H a = some (.tbl ps) → ∃ ps2, H2 a = some (.tbl ps2)
  t : ∀ P, TabS H P (Nm.nm P) → TabS H2 P (Nm.nm P)
theorem Ex.s {H H2 : Hp} (e : Ex H H2) (a : Addr) (h : H2 a = none) : H a = none := by
  cases h1 : H a with
  | none => rfl
  | some o =>
    cases hn : notT o with
    | true =>
      rw [e.g a o h1 hn] at h
      cases h
    | false =>
      cases o with
      | tbl ps =>
        obtain ⟨ps2, h2⟩ := e.k a ps h1
        rw [h2] at h
        cases h
      | _ => cases hn
theorem Ex.app {H H2 : Hp} (e : Ex H H2) (a : Addr) (o : HO) (h0 : H a = some o) (h : notT o = true := by rfl) : H2 a = some o := e.g a o h0 h
instance {H H2 : Hp} : CoeFun (Ex H H2) (fun _ => ∀ (a : Addr) (o : HO), H a = some o → (h : notT o = true := by rfl) → H2 a = some o) := ⟨@Ex.app _ H H2⟩
/-- what is no table and no code object (or not tracked) -/
def ML (H : Hp) (p : Addr) : Prop := ∀ o, H p = some o → notC o = true
theorem ml_of {H : Hp} {p : Addr} {o : HO} (h : H p = some o) (hc : notC o = true := by rfl) : ML H p := fun u hu => by
  rw [h] at hu
  cases hu
  exact hc
theorem tab_ne {H : Hp} {P p : Addr} {q : Str} (t : TabS H P q) (m : ML H p) : P ≠ p := fun e => by
  obtain ⟨ps, h1, _, _⟩ := t
  rw [e] at h1
  cases m _ h1
theorem code_ne {H : Hp} {c p : Addr} {q : Str} (h : H c = some (CodeO c q)) (m : ML H p) : c ≠ p := fun e => by
  rw [e] at h
  have := m _ h
  unfold CodeO at this
  cases this
theorem Ex.refl (H : Hp) : Ex H H := ⟨fun _ _ h _ => h, fun _ ps h => ⟨ps, h⟩, fun _ h => h⟩
theorem Ex.trans {H H1 H2 : Hp} (a : Ex H H1) (b : Ex H1 H2) : Ex H H2 := ⟨fun x o h n => b.g x o (a.g x o h n) n, fun x ps h => by
  obtain ⟨ps1, h1⟩ := a.k x ps h
  exact b.k x ps1 h1, fun P h => b.t P (a.t P h)⟩
theorem upd_no {H : Hp} {a p : Addr} {o : HO} (h : upd H p o a = none) : a ≠ p ∧ H a = none := by
  unfold upd at h
  split at h
  · cases h
  · rename_i n
    exact ⟨n, h⟩
/-- all that stood stands, tables too -/
theorem none_back {H H2 : Hp} (e : ∀ a o, H a = some o → H2 a = some o) {a : Addr} (h : H2 a = none) : H a = none := by
  cases h1 : H a with
  | none => rfl
  | some o =>
    rw [e a o h1] at h
    cases h
theorem Ex.of {H H2 : Hp} (e : ∀ a o, H a = some o → H2 a = some o) : Ex H H2 := ⟨fun a o h _ => e a o h, fun a ps h => ⟨ps, e _ _ h⟩, fun P h => TabS.ext h e⟩
theorem Ex.new {H : Hp} {p : Addr} {o : HO} (h : H p = none) : Ex H (upd H p o) := Ex.of fun a u e => by rw [upd_ne (ne_of_none e h)]; exact e
theorem tab_upd {H : Hp} {P p : Addr} {q : Str} {o : HO} (t : TabS H P q) (m : ML H p) : TabS (upd H p o) P q := by
  have hne := tab_ne t m
  obtain ⟨ps, h1, h2, h3⟩ := t
  refine ⟨ps, by rw [upd_ne hne]; exact h1, h2, fun pos cv hc => ?_⟩
  obtain ⟨c, e1, e2⟩ := h3 pos cv hc
  exact ⟨c, e1, by rw [upd_ne (code_ne e2 m)]; exact e2⟩
theorem tab_back {H : Hp} {P p : Addr} {q : Str} {o : HO} (t : TabS (upd H p o) P q) (ho : notC o = true) : TabS H P q := by
  have m : ML (upd H p o) p := ml_of upd_same ho
  have hne := tab_ne t m
  obtain ⟨ps, h1, h2, h3⟩ := t
  refine ⟨ps, by rw [upd_ne hne] at h1; exact h1, h2, fun pos cv hc => ?_⟩
  obtain ⟨c, e1, e2⟩ := h3 pos cv hc
  have := code_ne e2 m
  exact ⟨c, e1, by rw [upd_ne this] at e2; exact e2⟩
theorem Ex.mut {H H' : Hp} {p : Addr} {o : HO} (e : Ex H H') (h : H p = none) (m : ML H' p) : Ex H (upd H' p o) := ⟨fun a u ha n => by rw [upd_ne (ne_of_none ha h)]; exact e.g a u ha n, fun a ps ha => by
  obtain ⟨ps2, h2⟩ := e.k a ps ha
  exact ⟨ps2, by rw [upd_ne (ne_of_none ha h)]; exact h2⟩, fun P t => tab_upd (e.t P t) m⟩
theorem ex_rd {H H' : Hp} {a : Addr} {u : HO} (e : Ex H H') (h : Rd H a u) (hn : notT u = true := by rfl) : Rd H' a u := by
  rcases h with h | ⟨o, h⟩
  · exact .inl (e.g _ _ h hn)
  · exact .inr ⟨o, e.g _ _ h rfl⟩
theorem ex_l {K : PySem.W.Frag} {H H' : Hp} {a : Addr} {xs : List V} (e : Ex H H') (h : SqL K H a xs) : SqL K H' a xs := by
  rcases h with h | h
  · exact Or.inl (ex_rd e h)
  · exact Or.inr h
theorem ex_t {K : PySem.W.Frag} {H H' : Hp} {a : Addr} {xs : List V} (e : Ex H H') (h : SqT K H a xs) : SqT K H' a xs := by
  rcases h with h | h
  · exact Or.inl (ex_rd e h)
  · exact Or.inr h
theorem ex_frz0 {B H : Hp} {l : Addr} {o : HO} (e : Ex B H) (hH : H l = some o) (hc : notC o = true) : Ex (upd B l o) H := ⟨fun a u h n => by
  by_cases ha : a = l
  · subst ha
    rw [upd_same] at h
    rw [hH]
    exact h
  · rw [upd_ne ha] at h
    exact e.g a u h n, fun a ps h => by
  by_cases ha : a = l
  · rw [ha, upd_same] at h
    cases h
    cases hc
  · rw [upd_ne ha] at h
    exact e.k a ps h, fun P t => e.t P (tab_back t hc)⟩
theorem ex_upd {B H : Hp} {p : Addr} {o : HO} (e : Ex B H) (hp : H p = none) (hc : notC o = true) : Ex (upd B p o) (upd H p o) := ⟨fun a u h n => by
  by_cases ha : a = p
  · subst ha
    rw [upd_same] at h ⊢
    exact h
  · rw [upd_ne ha] at h ⊢
    exact e.g a u h n, fun a ps h => by
  by_cases ha : a = p
  · rw [ha, upd_same] at h
    cases h
    cases hc
  · rw [upd_ne ha] at h
    obtain ⟨ps2, h2⟩ := e.k a ps h
    exact ⟨ps2, by rw [upd_ne ha]; exact h2⟩, fun P t => (Ex.new hp).t P (e.t P (tab_back t hc))⟩
def delH (H : Hp) (l : Addr) : Hp := fun a => if a = l then none else H a
theorem delH_ne {H : Hp} {l a : Addr} (h : a ≠ l) : delH H l a = H a := if_neg h
theorem delH_same {H : Hp} {l : Addr} : delH H l l = none := if_pos rfl
theorem del_sub {H : Hp} {l : Addr} : Ex (delH H l) H := Ex.of fun a o h => by
  by_cases e : a = l
  · rw [e, delH_same] at h
    cases h
  · rwa [delH_ne e] at h
theorem del_of {H H2 : Hp} {l : Addr} (e : ∀ a o, H a = some o → a ≠ l ∧ H2 a = some o) : Ex H (delH H2 l) := Ex.of fun a o h => by
  rw [delH_ne (e a o h).1]
  exact (e a o h).2
theorem ex_del {H0 H : Hp} {l : Addr} (e : Ex H0 H) (h : H0 l = none) (m : ML H l) : Ex H0 (delH H l) := ⟨fun a o ha hn => by
  rw [delH_ne (ne_of_none ha h)]
  exact e.g a o ha hn, fun a ps ha => by
  obtain ⟨ps2, h2⟩ := e.k a ps ha
  exact ⟨ps2, by rw [delH_ne (ne_of_none ha h)]; exact h2⟩, fun P t => by
  have t2 := e.t P t
  have hne := tab_ne t2 m
  obtain ⟨ps, h1, h2, h3⟩ := t2
  refine ⟨ps, by rw [delH_ne hne]; exact h1, h2, fun pos cv hc => ?_⟩
  obtain ⟨c, e1, e2⟩ := h3 pos cv hc
  exact ⟨c, e1, by rw [delH_ne (code_ne e2 m)]; exact e2⟩⟩
def NC (H : Hp) (a : Addr) : Prop := ∃ o, H a = some o ∧ notC o = true
theorem NC.ex {H H2 : Hp} {a : Addr} (h : NC H a) (e : Ex H H2) : NC H2 a := by
  obtain ⟨o, h1, h2⟩ := h
  exact ⟨o, e.g _ _ h1 (notC_T h2), h2⟩
theorem NC.ne {H : Hp} {a : Addr} (h : NC H a) : H a ≠ none := by
  obtain ⟨o, h1, _⟩ := h
  rw [h1]
  exact fun z => nomatch z
theorem NC.del {H : Hp} {a l : Addr} (h : NC H a) (n : a ≠ l) : NC (delH H l) a := by
  obtain ⟨o, h1, h2⟩ := h
  exact ⟨o, by rw [delH_ne n]; exact h1, h2⟩
theorem fresh_back {H H' : Hp} {p : Addr} (e : Ex H H') (h : H' p = none) : H p = none := e.s p h
end Fo

/-! Fo: data trees behind values, and what an expression evaluates to over them. -/
namespace Fo
open PySem PySem.Spec PyProof.Rows L2
open Evl (ixN_nat)
variable [Nm]

/-- data: what a value stands for -/
inductive Da where
  | non | bl (b : Bool) | int (i : Int) | str (x : Str)
  | lst (ds : List Da) | tup (ds : List Da)
  | rng (lo hi : Int)
  | raw (u : V)
  | fn (f c : Addr) (q : Str) (ds : List Da) (ws : List V)
  | ins (C : Addr) (ns : List Str) (ds : List Da)

mutual
def Rp (K : PySem.W.Frag) (B : Hp) : Da → V → Prop
  | .non, v => v = .non
  | .bl b, v => v = .bl b
  | .int i, v => v = .int i
  | .str x, v => v = .str x
  | .lst ds, v => ∃ a xs, v = .ref a ∧ B a = some (.lst xs) ∧ RpA K B ds xs
  | .tup ds, v => ∃ a xs, v = .ref a ∧ SqT K B a xs ∧ RpA K B ds xs
  | .rng lo hi, v => ∃ a, v = .ref a ∧ B a = some (.rng lo hi)
  | .raw u, v => v = u
  | .fn f c q ds ws, v => v = .ref f ∧ B c = some (LamX.CodeO c q) ∧ RpA K B ds ws
  | .ins C ns ds, v => ∃ a dx xs, v = .ref a ∧ B a = some (.ins C dx (ns.zip xs)) ∧ RpA K B ds xs
def RpA (K : PySem.W.Frag) (B : Hp) : List Da → List V → Prop
  | [], xs => xs = []
  | d :: ds, xs => ∃ x r, xs = x :: r ∧ Rp K B d x ∧ RpA K B ds r
end
section
variable {K : PySem.W.Frag} {B B2 H H2 : Hp}
mutual
theorem Rp.mono (e : Ex B B2) : ∀ (d : Da) (v : V), Rp K B d v → Rp K B2 d v
  | .non, _, h => h
  | .bl _, _, h => h
  | .int _, _, h => h
  | .str _, _, h => h
  | .raw _, _, h => h
  | .fn f c q ds ws, _, h => by
    obtain ⟨h1, h2, h3⟩ := h
    exact ⟨h1, e _ _ h2, RpA.mono e ds ws h3⟩
  | .lst ds, _, h => by
    obtain ⟨a, xs, h1, h2, h3⟩ := h
    exact ⟨a, xs, h1, e _ _ h2, RpA.mono e ds xs h3⟩
  | .tup ds, _, h => by
    obtain ⟨a, xs, h1, h2, h3⟩ := h
    exact ⟨a, xs, h1, ex_t e h2, RpA.mono e ds xs h3⟩
  | .rng lo hi, _, h => by
    obtain ⟨a, h1, h2⟩ := h
    exact ⟨a, h1, e _ _ h2⟩
  | .ins C ns ds, _, h => by
    obtain ⟨a, dx, xs, h1, h2, h3⟩ := h
    exact ⟨a, dx, xs, h1, e _ _ h2, RpA.mono e ds xs h3⟩
theorem RpA.mono (e : Ex B B2) : ∀ (ds : List Da) (xs : List V), RpA K B ds xs → RpA K B2 ds xs
  | [], _, h => h
  | d :: ds, _, h => by
    obtain ⟨x, r, h1, h2, h3⟩ := h
    exact ⟨x, r, h1, Rp.mono e d x h2, RpA.mono e ds r h3⟩
end
theorem sq1 {a : Addr} {xs : List V} (e : Ex B H) (h : B a = some (.lst xs)) : SqL K H a xs := .inl (.inl (e _ _ h))
theorem RpA.length : ∀ {ds : List Da} {xs : List V}, RpA K B ds xs → xs.length = ds.length
  | [], _, h => by
    rw [show _ = _ from h]
    rfl
  | d :: ds, _, h => by
    obtain ⟨x, r, rfl, _, h3⟩ := h
    rw [List.length_cons, List.length_cons, RpA.length h3]
theorem RpA.get : ∀ {ds : List Da} {xs : List V} {i : Nat} {d : Da}, RpA K B ds xs → ds[i]? = some d → ∃ x, xs[i]? = some x ∧ Rp K B d x
  | [], _, _, _, _, e => by simp at e
  | d :: ds, _, 0, _, h, e => by
    obtain ⟨x, r, rfl, h2, _⟩ := h
    cases (Option.some.inj e : d = _)
    exact ⟨x, rfl, h2⟩
  | d :: ds, _, i + 1, d2, h, e => by
    obtain ⟨x, r, rfl, _, h3⟩ := h
    exact RpA.get (i := i) h3 e
theorem RpA.got : ∀ {ds : List Da} {xs : List V} {i : Nat} {x : V}, RpA K B ds xs → xs[i]? = some x → ∃ d, ds[i]? = some d ∧ Rp K B d x := fun {ds xs i x} h e => by
  have hl := h.length
  have hi := (List.getElem?_eq_some_iff.mp e).1
  obtain ⟨y, h1, h2⟩ := RpA.get (i := i) (d := ds[i]'(by omega)) h (by simp)
  rw [e] at h1
  cases h1
  exact ⟨_, by simp, h2⟩
theorem RpA.append : ∀ {ds es : List Da} {xs ys : List V}, RpA K B ds xs → RpA K B es ys → RpA K B (ds ++ es) (xs ++ ys)
  | [], _, _, _, h, k => by
    rw [show _ = _ from h]
    exact k
  | d :: ds, _, _, _, h, k => by
    obtain ⟨x, r, rfl, h2, h3⟩ := h
    exact ⟨x, _, rfl, h2, RpA.append h3 k⟩
theorem RpA.one {d : Da} {x : V} (h : Rp K B d x) : RpA K B [d] [x] := ⟨x, [], rfl, h, rfl⟩
theorem RpA.take : ∀ {ds : List Da} {xs : List V} (n : Nat), RpA K B ds xs → RpA K B (ds.take n) (xs.take n)
  | _, _, 0, _ => rfl
  | [], _, n + 1, h => by
    rw [show _ = _ from h]
    rfl
  | d :: ds, _, n + 1, h => by
    obtain ⟨x, r, rfl, h2, h3⟩ := h
    exact ⟨x, _, rfl, h2, RpA.take n h3⟩
theorem RpA.drop : ∀ {ds : List Da} {xs : List V} (n : Nat), RpA K B ds xs → RpA K B (ds.drop n) (xs.drop n)
  | _, _, 0, h => h
  | [], _, n + 1, h => by
    rw [show _ = _ from h]
    rfl
  | d :: ds, _, n + 1, h => by
    obtain ⟨x, r, rfl, h2, h3⟩ := h
    exact RpA.drop n h3
theorem RpA.set : ∀ {ds : List Da} {xs : List V} {d : Da} {x : V} (i : Nat), RpA K B ds xs → Rp K B d x → RpA K B (ds.set i d) (xs.set i x)
  | [], _, _, _, i, h, _ => by
    rw [show _ = _ from h]
    exact (rfl : ([] : List V).set i _ = [])
  | d :: ds, _, _, x, 0, h, k => by
    obtain ⟨y, r, rfl, h2, h3⟩ := h
    exact ⟨x, r, rfl, k, h3⟩
  | d :: ds, _, _, x, i + 1, h, k => by
    obtain ⟨y, r, rfl, h2, h3⟩ := h
    exact ⟨y, _, rfl, h2, RpA.set i h3 k⟩
theorem RpA.eraseIdx : ∀ {ds : List Da} {xs : List V} (i : Nat), RpA K B ds xs → RpA K B (ds.eraseIdx i) (xs.eraseIdx i)
  | [], _, _, h => by
    rw [show _ = _ from h]
    rfl
  | d :: ds, _, 0, h => by
    obtain ⟨y, r, rfl, h2, h3⟩ := h
    exact h3
  | d :: ds, _, i + 1, h => by
    obtain ⟨y, r, rfl, h2, h3⟩ := h
    exact ⟨y, _, rfl, h2, RpA.eraseIdx i h3⟩
theorem RpA.reverse : ∀ {ds : List Da} {xs : List V}, RpA K B ds xs → RpA K B ds.reverse xs.reverse
  | [], _, h => by
    rw [show _ = _ from h]
    rfl
  | d :: ds, _, h => by
    obtain ⟨y, r, rfl, h2, h3⟩ := h
    rw [List.reverse_cons, List.reverse_cons]
    exact (RpA.reverse h3).append (.one h2)
theorem RpA.ints (ns : List Int) : RpA K B (ns.map Da.int) (ns.map V.int) := by
  induction ns with
  | nil => rfl
  | cons n r ih => exact ⟨_, _, rfl, rfl, ih⟩
theorem RpA.ints_of : ∀ {ns : List Int} {xs : List V}, RpA K B (ns.map Da.int) xs → xs = ns.map V.int
  | [], _, h => h
  | n :: r, _, h => by
    obtain ⟨x, q, rfl, h2, h3⟩ := h
    rw [RpA.ints_of h3, show x = _ from h2]
    rfl
theorem RpA.bls_of : ∀ {bs : List Bool} {xs : List V}, RpA K B (bs.map Da.bl) xs → xs = bs.map V.bl
  | [], _, h => h
  | n :: r, _, h => by
    obtain ⟨x, q, rfl, h2, h3⟩ := h
    rw [RpA.bls_of h3, show x = _ from h2]
    rfl

/-! ### the data's heap B under the heap H: both grow; what was no data stays none -/
structure Nx (B H B2 H2 : Hp) : Prop where
  ok : Ex B2 H2
  b : Ex B B2
  h : Ex H H2
  nw : ∀ a, B a = none → NC H a → B2 a = none
theorem Nx.refl (e : Ex B H) : Nx B H B H := ⟨e, .refl _, .refl _, fun _ h _ => h⟩
theorem Nx.trans {B3 H3 : Hp} (p : Nx B H B2 H2) (q : Nx B2 H2 B3 H3) : Nx B H B3 H3 :=
  ⟨q.ok, p.b.trans q.b, p.h.trans q.h, fun a h1 h2 => q.nw a (p.nw a h1 h2) (h2.ex p.h)⟩
theorem Nx.new {p : Addr} {o : HO} (e : Ex B H) (hp : H p = none) (hc : notC o = true := by rfl) : Nx B H (upd B p o) (upd H p o) :=
  ⟨ex_upd e hp hc, .new (fresh_back e hp), .new hp, fun a h1 h2 => by
    have hne : a ≠ p := by
      intro z
      subst z
      exact h2.ne hp
    rw [upd_ne hne]
    exact h1⟩
/-- the heap alone grows -/
theorem Nx.grow (e : Ex B H) (h : Ex H H2) : Nx B H B H2 := ⟨e.trans h, .refl _, h, fun _ h _ => h⟩
/-- a new thing of H, not of the data -/
theorem Nx.out {p : Addr} {o : HO} (e : Ex B H) (hp : H p = none) : Nx B H B (upd H p o) := .grow e (.new hp)
/-- what is no data stands apart from data -/
theorem Nx.apart {a : Addr} (p : Nx B H B2 H2) {o : HO} (h1 : B a = none) (h2 : H a = some o) (hn : notC o = true := by rfl) : B2 a = none ∧ H2 a = some o :=
  ⟨p.nw a h1 ⟨o, h2, hn⟩, p.h.g a o h2 (notC_T hn)⟩
/-- what is no data may change -/
theorem ex_mut {p : Addr} {o : HO} (e : Ex B H) (hp : B p = none) (m : ML H p) : Ex B (upd H p o) := Ex.mut e hp m

/-! ### the slots -/
def Sl (K : PySem.W.Frag) (B : Hp) : List (Option Da) → L2.St → Prop
  | [], [] => True
  | g :: Γ, s :: σ => (match g with
      | none => True
      | some d => ∃ v, s = some v ∧ Rp K B d v) ∧ Sl K B Γ σ
  | _, _ => False
theorem Sl.mono : ∀ {Γ : List (Option Da)} {σ : L2.St}, Ex B B2 → Sl K B Γ σ → Sl K B2 Γ σ
  | [], [], _, _ => trivial
  | none :: Γ, s :: σ, e, h => ⟨trivial, Sl.mono e h.2⟩
  | some d :: Γ, s :: σ, e, h => by
    obtain ⟨⟨v, h1, h2⟩, h3⟩ := h
    exact ⟨⟨v, h1, Rp.mono e _ _ h2⟩, Sl.mono e h3⟩
  | [], _ :: _, _, h => h.elim
  | _ :: _, [], _, h => by
    unfold Sl at h
    exact h.elim
theorem Sl.get : ∀ {Γ : List (Option Da)} {σ : L2.St} {i : Nat} {d : Da}, Sl K B Γ σ → Γ[i]? = some (some d) → ∃ v, σ[i]? = some (some v) ∧ Rp K B d v
  | [], _, _, _, _, e => by simp at e
  | g :: Γ, [], _, _, h, _ => by
    unfold Sl at h
    exact h.elim
  | some d :: Γ, s :: σ, 0, _, h, e => by
    obtain ⟨⟨v, h1, h2⟩, _⟩ := h
    cases (Option.some.inj (Option.some.inj e) : d = _)
    exact ⟨v, by rw [h1]; rfl, h2⟩
  | none :: Γ, s :: σ, 0, _, h, e => by
    have e2 := Option.some.inj e
    cases e2
  | g :: Γ, s :: σ, i + 1, _, h, e => by
    have h2 : Sl K B Γ σ := by
      cases g with
      | none => exact h.2
      | some d => exact h.2
    exact Sl.get (i := i) h2 e
theorem Sl.set : ∀ {Γ : List (Option Da)} {σ : L2.St} {d : Da} {v : V} (i : Nat), Sl K B Γ σ → Rp K B d v → Sl K B (Γ.set i (some d)) (σ.set i (some v))
  | [], [], _, _, _, _, _ => trivial
  | [], _ :: _, _, _, _, h, _ => h.elim
  | g :: Γ, [], _, _, _, h, _ => by
    unfold Sl at h
    exact h.elim
  | g :: Γ, s :: σ, d, v, 0, h, r => ⟨⟨v, rfl, r⟩, by
      cases g with
      | none => exact h.2
      | some d => exact h.2⟩
  | none :: Γ, s :: σ, d, v, i + 1, h, r => ⟨trivial, Sl.set i h.2 r⟩
  | some g :: Γ, s :: σ, d, v, i + 1, h, r => ⟨h.1, Sl.set i h.2 r⟩
theorem Sl.set0 : ∀ {Γ : List (Option Da)} {σ : L2.St} {x : Option V} (i : Nat), Sl K B Γ σ → Sl K B (Γ.set i none) (σ.set i x)
  | [], [], _, _, _ => trivial
  | [], _ :: _, _, _, h => h.elim
  | g :: Γ, [], _, _, h => by
    unfold Sl at h
    exact h.elim
  | g :: Γ, s :: σ, x, 0, h => ⟨trivial, by
      cases g with
      | none => exact h.2
      | some d => exact h.2⟩
  | none :: Γ, s :: σ, x, i + 1, h => ⟨trivial, Sl.set0 i h.2⟩
  | some g :: Γ, s :: σ, x, i + 1, h => ⟨h.1, Sl.set0 i h.2⟩
def wipeG (Γ : List (Option Da)) : List Nat → List (Option Da)
  | [] => Γ
  | v :: vs => (wipeG Γ vs).set v none
theorem Sl.wipe {Γ : List (Option Da)} {σ : L2.St} : ∀ (vs : List Nat), Sl K B Γ σ → Sl K B (wipeG Γ vs) (L2.wipe σ vs)
  | [], h => h
  | v :: vs, h => Sl.set0 v (Sl.wipe vs h)
theorem sl_args : ∀ {ds : List Da} {vs : List V} (n : Nat), RpA K B ds vs → Sl K B (ds.map some ++ List.replicate n none) (vs.map some ++ List.replicate n none)
  | [], _, 0, h => by
    rw [show _ = _ from h]
    trivial
  | [], _, n + 1, h => by
    have ih := sl_args (ds := []) (vs := []) n (show RpA K B [] [] from rfl)
    rw [show _ = _ from h]
    exact ⟨trivial, ih⟩
  | d :: ds, _, n, h => by
    obtain ⟨x, r, rfl, h2, h3⟩ := h
    exact ⟨⟨x, rfl, h2⟩, sl_args n h3⟩
end

/-! ### expressions -/
section
variable {K : PySem.W.Frag} {B H : Hp} {Γ : List (Option Da)} {te ta tb tc : TE} {tt t u : TT} {d d1 d2 d3 : Da}
/-- what comes: a value of the data d -/
def Goes (K : PySem.W.Frag) (B H : Hp) (d : Da) (Q : VK) : Prop := ∀ v B2 H2, Nx B H B2 H2 → Rp K B2 d v → Q v H2
def EvG (K : PySem.W.Frag) (Γ : List (Option Da)) (te : TE) (d : Da) : Prop := ∀ σ B H, Sl K B Γ σ → Ex B H → ∀ Q : VK, Goes K B H d Q → te σ H Q
def EvB (K : PySem.W.Frag) (Γ : List (Option Da)) (tt : TT) (b : Bool) : Prop := ∀ σ B H, Sl K B Γ σ → Ex B H → ∀ Q : Bool → Hp → Prop, (∀ B2 H2, Nx B H B2 H2 → Q b H2) → tt σ H Q
def EvS (K : PySem.W.Frag) (Γ : List (Option Da)) (ta : TA) (ds : List Da) : Prop := ∀ σ B H, Sl K B Γ σ → Ex B H → ∀ Q : List V → Hp → Prop, (∀ vs B2 H2, Nx B H B2 H2 → RpA K B2 ds vs → Q vs H2) → ta σ H Q
/-- an operation on data: of two, of one, of a row -/
def RG (K : PySem.W.Frag) (r : R2) (x y z : Da) : Prop := ∀ B H vx vy, Ex B H → Rp K B x vx → Rp K B y vy → ∀ Q : VK, Goes K B H z Q → r vx vy H Q
def RG1 (K : PySem.W.Frag) (r : V → Hp → VK → Prop) (x z : Da) : Prop := ∀ B H vx, Ex B H → Rp K B x vx → ∀ Q : VK, Goes K B H z Q → r vx H Q
def RGC (K : PySem.W.Frag) (r : List V → Hp → VK → Prop) (ds : List Da) (z : Da) : Prop := ∀ B H vs, Ex B H → RpA K B ds vs → ∀ Q : VK, Goes K B H z Q → r vs H Q
theorem Goes.now {Q : VK} {v : V} (k : Goes K B H d Q) (e : Ex B H) (r : Rp K B d v) : Q v H := k v B H (.refl e) r
theorem Goes.mono {Q : VK} {B2 H2 : Hp} (k : Goes K B H d Q) (n : Nx B H B2 H2) : Goes K B2 H2 d Q := fun v B3 H3 n3 r => k v B3 H3 (n.trans n3) r
theorem Goes.lst {Q : VK} {ds : List Da} {xs : List V} {p : Addr} (k : Goes K B H (.lst ds) Q) (e : Ex B H) (r : RpA K B ds xs) (hp : H p = none) : Q (.ref p) (upd H p (.lst xs)) :=
  k _ _ _ (.new e hp) ⟨p, xs, rfl, upd_same, RpA.mono (.new (fresh_back e hp)) _ _ r⟩
theorem Goes.tup {Q : VK} {ds : List Da} {xs : List V} {p : Addr} (k : Goes K B H (.tup ds) Q) (e : Ex B H) (r : RpA K B ds xs) (hp : H p = none) : Q (.ref p) (upd H p (.tup xs)) :=
  k _ _ _ (.new e hp) ⟨p, xs, rfl, .inl (.inl upd_same), RpA.mono (.new (fresh_back e hp)) _ _ r⟩

theorem g_var {i : Nat} (h : Γ[i]? = some (some d)) : EvG K Γ (tVar i) d := fun σ B H hs e Q k => by
  obtain ⟨v, h1, h2⟩ := hs.get h
  exact ⟨v, h1, k.now e h2⟩
theorem g_c {v : V} (h : ∀ B, Rp K B d v) : EvG K Γ (tC v) d := fun σ B H _ e Q k => k.now e (h B)
theorem g_int {i : Int} : EvG K Γ (tC (.int i)) (.int i) := g_c fun _ => rfl
theorem g_bl {b : Bool} : EvG K Γ (tC (.bl b)) (.bl b) := g_c fun _ => rfl
theorem g_non : EvG K Γ (tC .non) .non := g_c fun _ => rfl
theorem g_str {x : Str} : EvG K Γ (tC (.str x)) (.str x) := g_c fun _ => rfl
theorem g_op {r : R2} (ha : EvG K Γ ta d1) (hb : EvG K Γ tb d2) (hr : RG K r d1 d2 d) : EvG K Γ (tOp r ta tb) d := fun σ B H hs e Q k =>
  ha σ B H hs e _ fun x B1 H1 n1 rx => hb σ B1 H1 (hs.mono n1.b) n1.ok _ fun y B2 H2 n2 ry => hr B2 H2 x y n2.ok (Rp.mono n2.b _ _ rx) ry Q (k.mono (n1.trans n2))
theorem g_un {r : V → Hp → VK → Prop} (ha : EvG K Γ ta d1) (hr : RG1 K r d1 d) : EvG K Γ (tUn r ta) d := fun σ B H hs e Q k =>
  ha σ B H hs e _ fun x B1 H1 n1 rx => hr B1 H1 x n1.ok rx Q (k.mono n1)
theorem r_I0 {g : Int → Int → V} {i j : Int} (h : ∀ B, Rp K B d (g i j)) : RG K (rI0 g) (.int i) (.int j) d := fun B H vx vy e rx ry Q k => ⟨i, j, rx, ry, k.now e (h B)⟩
theorem r_I {C : Int → Int → Prop} {g : Int → Int → V} {i j : Int} (hc : C i j) (h : ∀ B, Rp K B d (g i j)) : RG K (rI C g) (.int i) (.int j) d := fun B H vx vy e rx ry Q k => ⟨i, j, rx, ry, hc, k.now e (h B)⟩
theorem g_II {f : Int → Int → Int} {i j : Int} (ha : EvG K Γ ta (.int i)) (hb : EvG K Γ tb (.int j)) : EvG K Γ (tOp (rI0 fun i j => .int (f i j)) ta tb) (.int (f i j)) := g_op ha hb (r_I0 fun _ => rfl)
theorem g_IB {f : Int → Int → Bool} {i j : Int} (ha : EvG K Γ ta (.int i)) (hb : EvG K Γ tb (.int j)) : EvG K Γ (tOp (rI0 fun i j => .bl (f i j)) ta tb) (.bl (f i j)) := g_op ha hb (r_I0 fun _ => rfl)
theorem g_IC {C : Int → Int → Prop} {f : Int → Int → Int} {i j : Int} (ha : EvG K Γ ta (.int i)) (hb : EvG K Γ tb (.int j)) (hc : C i j) : EvG K Γ (tOp (rI C fun i j => .int (f i j)) ta tb) (.int (f i j)) := g_op ha hb (r_I hc fun _ => rfl)
theorem g_U {f : Int → Int} {i : Int} (ha : EvG K Γ ta (.int i)) : EvG K Γ (tUn (rU fun i => .int (f i)) ta) (.int (f i)) := g_un ha fun B H vx e rx Q k => ⟨i, rx, k.now e rfl⟩
/-- == and != of scalars -/
def sca : Da → Option V
  | .non => some .non
  | .bl b => some (.bl b)
  | .int i => some (.int i)
  | .str x => some (.str x)
  | _ => none
theorem sca_rp {x : V} : ∀ {d : Da}, sca d = some x → ∀ {B v}, Rp K B d v → v = x
  | .non, h, _, _, r => by cases h; exact r
  | .bl _, h, _, _, r => by cases h; exact r
  | .int _, h, _, _, r => by cases h; exact r
  | .str _, h, _, _, r => by cases h; exact r
  | .lst _, h, _, _, _ => by cases h
  | .tup _, h, _, _, _ => by cases h
  | .rng _ _, h, _, _, _ => by cases h
  | .raw _, h, _, _, _ => by cases h
  | .fn _ _ _ _ _, h, _, _, _ => by cases h
  | .ins _ _ _, h, _, _, _ => by cases h
theorem g_eqS {x y : V} (ha : EvG K Γ ta d1) (hb : EvG K Γ tb d2) (h1 : sca d1 = some x) (h2 : sca d2 = some y) (hs : scal x y = true) : EvG K Γ (tOp rEq ta tb) (.bl (decide (x = y))) := g_op ha hb fun B H vx vy e rx ry Q k => by
  obtain rfl := sca_rp h1 rx
  obtain rfl := sca_rp h2 ry
  exact ⟨hs, k.now e rfl⟩
theorem g_neS {x y : V} (ha : EvG K Γ ta d1) (hb : EvG K Γ tb d2) (h1 : sca d1 = some x) (h2 : sca d2 = some y) (hs : scal x y = true) : EvG K Γ (tOp rNe ta tb) (.bl (!decide (x = y))) := g_op ha hb fun B H vx vy e rx ry Q k => by
  obtain rfl := sca_rp h1 rx
  obtain rfl := sca_rp h2 ry
  exact ⟨hs, k.now e rfl⟩
theorem dec_int {i j : Int} : decide (V.int i = V.int j) = decide (i = j) := by
  by_cases h : i = j
  · subst h; simp
  · have : ¬ V.int i = V.int j := fun z => h (V.int.inj z)
    simp [h, this]
theorem dec_bl {i j : Bool} : decide (V.bl i = V.bl j) = (i == j) := by
  cases i <;> cases j <;> decide
theorem dec_str {i j : Str} : decide (V.str i = V.str j) = decide (i = j) := by
  by_cases h : i = j
  · subst h; simp
  · have : ¬ V.str i = V.str j := fun z => h (V.str.inj z)
    simp [h, this]
theorem EvG.to (h : EvG K Γ te d) (e : d = d2) : EvG K Γ te d2 := e ▸ h
theorem g_eqI {i j : Int} (ha : EvG K Γ ta (.int i)) (hb : EvG K Γ tb (.int j)) : EvG K Γ (tOp rEq ta tb) (.bl (decide (i = j))) := (g_eqS ha hb rfl rfl rfl).to (by rw [dec_int])
theorem g_neI {i j : Int} (ha : EvG K Γ ta (.int i)) (hb : EvG K Γ tb (.int j)) : EvG K Γ (tOp rNe ta tb) (.bl (!decide (i = j))) := (g_neS ha hb rfl rfl rfl).to (by rw [dec_int])
theorem g_eqB {i j : Bool} (ha : EvG K Γ ta (.bl i)) (hb : EvG K Γ tb (.bl j)) : EvG K Γ (tOp rEq ta tb) (.bl (i == j)) := (g_eqS ha hb rfl rfl rfl).to (by rw [dec_bl])
theorem g_neB {i j : Bool} (ha : EvG K Γ ta (.bl i)) (hb : EvG K Γ tb (.bl j)) : EvG K Γ (tOp rNe ta tb) (.bl (!(i == j))) := (g_neS ha hb rfl rfl rfl).to (by rw [dec_bl])
theorem g_eqStr {i j : Str} (ha : EvG K Γ ta (.str i)) (hb : EvG K Γ tb (.str j)) : EvG K Γ (tOp rEq ta tb) (.bl (decide (i = j))) := (g_eqS ha hb rfl rfl rfl).to (by rw [dec_str])
theorem g_neStr {i j : Str} (ha : EvG K Γ ta (.str i)) (hb : EvG K Γ tb (.str j)) : EvG K Γ (tOp rNe ta tb) (.bl (!decide (i = j))) := (g_neS ha hb rfl rfl rfl).to (by rw [dec_str])
/-- a < b < c -/
theorem g_chain {r r' : R2} {k : Bool} {b : Bool} (ha : EvG K Γ ta d1) (hb : EvG K Γ tb d2) (hr : RG K r d1 d2 (.bl k)) (hc : k = true → EvG K Γ tc d3) (hr' : k = true → RG K r' d2 d3 (.bl b)) (hn : k = false → b = false) :
    EvG K Γ (tChain r r' ta tb tc) (.bl b) := fun σ B H hs e Q q =>
  ha σ B H hs e _ fun x B1 H1 n1 rx => hb σ B1 H1 (hs.mono n1.b) n1.ok _ fun y B2 H2 n2 ry => hr B2 H2 x y n2.ok (Rp.mono n2.b _ _ rx) ry _ fun z B3 H3 n3 rz => by
    refine ⟨k, rz, ?_⟩
    cases k with
    | false =>
      rw [if_neg Bool.false_ne_true]
      obtain rfl := hn rfl
      exact q.mono ((n1.trans n2).trans n3) |>.now n3.ok rfl
    | true =>
      rw [if_pos rfl]
      exact hc rfl σ B3 H3 (hs.mono ((n1.trans n2).trans n3).b) n3.ok _ fun w B4 H4 n4 rw' => hr' rfl B4 H4 y w n4.ok (Rp.mono (n3.trans n4).b _ _ ry) rw' Q (q.mono (((n1.trans n2).trans n3).trans n4))
theorem g_and {a b : Bool} (ha : EvG K Γ ta (.bl a)) (hb : a = true → EvG K Γ tb (.bl b)) : EvG K Γ (tAndV ta tb) (.bl (a && b)) := fun σ B H hs e Q k =>
  ha σ B H hs e _ fun x B1 H1 n1 rx => ⟨a, rx, by
    cases a with
    | false =>
      rw [if_neg Bool.false_ne_true]
      exact (k.mono n1).now n1.ok rfl
    | true =>
      rw [if_pos rfl]
      exact hb rfl σ B1 H1 (hs.mono n1.b) n1.ok Q (k.mono n1)⟩
theorem g_or {a b : Bool} (ha : EvG K Γ ta (.bl a)) (hb : a = false → EvG K Γ tb (.bl b)) : EvG K Γ (tOrV ta tb) (.bl (a || b)) := fun σ B H hs e Q k =>
  ha σ B H hs e _ fun x B1 H1 n1 rx => ⟨a, rx, by
    cases a with
    | true =>
      rw [if_pos rfl]
      exact (k.mono n1).now n1.ok rfl
    | false =>
      rw [if_neg Bool.false_ne_true]
      exact hb rfl σ B1 H1 (hs.mono n1.b) n1.ok Q (k.mono n1)⟩
theorem g_not {a : Bool} (ha : EvG K Γ ta (.bl a)) : EvG K Γ (tNotV ta) (.bl (!a)) := fun σ B H hs e Q k =>
  ha σ B H hs e _ fun x B1 H1 n1 rx => ⟨a, rx, (k.mono n1).now n1.ok rfl⟩
theorem s_nil : EvS K Γ tNil [] := fun σ B H _ e Q k => k [] B H (.refl e) rfl
theorem s_cons {tr : TA} {ds : List Da} (ha : EvG K Γ ta d) (hr : EvS K Γ tr ds) : EvS K Γ (tCons ta tr) (d :: ds) := fun σ B H hs e Q k =>
  ha σ B H hs e _ fun x B1 H1 n1 rx => hr σ B1 H1 (hs.mono n1.b) n1.ok _ fun xs B2 H2 n2 rs => k _ B2 H2 (n1.trans n2) ⟨x, xs, rfl, Rp.mono n2.b _ _ rx, rs⟩
theorem size_ok {n : Nat} (h : n ≤ 1000000) : n ≤ sizeLine := Nat.le_trans h (by decide)
theorem size_lt {n : Nat} (h : n < 1000000) : n < sizeLine := Nat.lt_of_lt_of_le h (by decide)
theorem g_lst {tr : TA} {ds : List Da} (h : EvS K Γ tr ds) (hl : ds.length ≤ 1000000) : EvG K Γ (tLst tr) (.lst ds) := fun σ B H hs e Q k =>
  h σ B H hs e _ fun xs B1 H1 n1 rs => ⟨size_ok (by rw [rs.length]; exact hl), fun p hp => (k.mono n1).lst n1.ok rs hp⟩
theorem g_tup {tr : TA} {ds : List Da} (h : EvS K Γ tr ds) (hl : ds.length ≤ 1000000) : EvG K Γ (tTup tr) (.tup ds) := fun σ B H hs e Q k =>
  h σ B H hs e _ fun xs B1 H1 n1 rs => ⟨size_ok (by rw [rs.length]; exact hl), fun p hp => (k.mono n1).tup n1.ok rs hp⟩
theorem atI_rp {ds : List Da} {xs : List V} {i : Int} (h : RpA K B ds xs) (e : atI ds i = some d) : ∃ x, atI xs i = some x ∧ Rp K B d x := by
  unfold atI at e ⊢
  rw [h.length]
  cases hj : ixN ds.length i with
  | none =>
    rw [hj] at e
    cases e
  | some j =>
    rw [hj] at e
    exact h.get e
theorem g_ixL {ds : List Da} {i : Int} (ha : EvG K Γ ta (.lst ds)) (hb : EvG K Γ tb (.int i)) (h : atI ds i = some d) : EvG K Γ (tOp (rIxL K) ta tb) d := g_op ha hb fun B H vx vy e rx ry Q k => by
  obtain ⟨a, xs, rfl, h1, h2⟩ := rx
  obtain ⟨x, h3, h4⟩ := atI_rp h2 h
  exact ⟨a, xs, i, x, rfl, ry, sq1 e h1, h3, k.now e h4⟩
theorem g_ixT {ds : List Da} {i : Int} (ha : EvG K Γ ta (.tup ds)) (hb : EvG K Γ tb (.int i)) (h : atI ds i = some d) : EvG K Γ (tOp (rIxT K) ta tb) d := g_op ha hb fun B H vx vy e rx ry Q k => by
  obtain ⟨a, xs, rfl, h1, h2⟩ := rx
  obtain ⟨x, h3, h4⟩ := atI_rp h2 h
  exact ⟨a, xs, i, x, rfl, ry, ex_t e h1, h3, k.now e h4⟩
theorem at_nat {α : Type} {xs : List α} {j : Nat} {x : α} (h : xs[j]? = some x) : atI xs (j : Int) = some x := atI_nat h
/-- built-ins of a row of arguments -/
theorem g_cb {r : List V → Hp → VK → Prop} {tr : TA} {ds : List Da} (h : EvS K Γ tr ds) (hr : RGC K r ds d) : EvG K Γ (tCB r tr) d := fun σ B H hs e Q k =>
  h σ B H hs e _ fun xs B1 H1 n1 rs => hr B1 H1 xs n1.ok rs Q (k.mono n1)
theorem rpa1 {v : List V} (h : RpA K B [d] v) : ∃ x, v = [x] ∧ Rp K B d x := by
  obtain ⟨x, r, rfl, h1, h2⟩ := h
  obtain rfl : r = [] := h2
  exact ⟨x, rfl, h1⟩
theorem rpa2 {v : List V} (h : RpA K B [d1, d2] v) : ∃ x y, v = [x, y] ∧ Rp K B d1 x ∧ Rp K B d2 y := by
  obtain ⟨x, r, rfl, h1, h2⟩ := h
  obtain ⟨y, rfl, h3⟩ := rpa1 h2
  exact ⟨x, y, rfl, h1, h3⟩
theorem rpa3 {v : List V} (h : RpA K B [d1, d2, d3] v) : ∃ x y z, v = [x, y, z] ∧ Rp K B d1 x ∧ Rp K B d2 y ∧ Rp K B d3 z := by
  obtain ⟨x, r, rfl, h1, h2⟩ := h
  obtain ⟨y, z, rfl, h3, h4⟩ := rpa2 h2
  exact ⟨x, y, z, rfl, h1, h3, h4⟩
abbrev rLenQ (K : PySem.W.Frag) : List V → Hp → VK → Prop := fun xs H Q => ∃ p ys, xs = [.ref p] ∧ (SqL K H p ys ∨ SqT K H p ys) ∧ Q (.int ys.length) H
theorem c_lenL {ds : List Da} : RGC K (rLenQ K) [.lst ds] (.int ds.length) := fun B H vs e r Q k => by
  obtain ⟨x, rfl, a, xs, rfl, h1, h2⟩ := rpa1 r
  exact ⟨a, xs, rfl, .inl (sq1 e h1), by rw [h2.length]; exact k.now e rfl⟩
theorem c_lenT {ds : List Da} : RGC K (rLenQ K) [.tup ds] (.int ds.length) := fun B H vs e r Q k => by
  obtain ⟨x, rfl, a, xs, rfl, h1, h2⟩ := rpa1 r
  exact ⟨a, xs, rfl, .inr (ex_t e h1), by rw [h2.length]; exact k.now e rfl⟩
theorem c_all {bs : List Bool} : RGC K (rAll K) [.lst (bs.map Da.bl)] (.bl (bs.all id)) := fun B H vs e r Q k => by
  obtain ⟨x, rfl, a, xs, rfl, h1, h2⟩ := rpa1 r
  obtain rfl := h2.bls_of
  exact ⟨a, bs, rfl, sq1 e h1, k.now e rfl⟩
theorem c_any {bs : List Bool} : RGC K (rAny K) [.lst (bs.map Da.bl)] (.bl (bs.any id)) := fun B H vs e r Q k => by
  obtain ⟨x, rfl, a, xs, rfl, h1, h2⟩ := rpa1 r
  obtain rfl := h2.bls_of
  exact ⟨a, bs, rfl, sq1 e h1, k.now e rfl⟩
/-- tuple(a list) -/
theorem g_tupL {ds : List Da} (ha : EvG K Γ ta (.lst ds)) : EvG K Γ (tThen ta (kTup K)) (.tup ds) := fun σ B H hs e Q k =>
  ha σ B H hs e _ fun x B1 H1 n1 rx => by
    obtain ⟨a, xs, rfl, h1, h2⟩ := rx
    exact .inl ⟨a, xs, rfl, sq1 n1.ok h1, fun q hq => (k.mono n1).tup n1.ok h2 hq⟩
theorem g_tupT {ds : List Da} (ha : EvG K Γ ta (.tup ds)) : EvG K Γ (tThen ta (kTup K)) (.tup ds) := fun σ B H hs e Q k =>
  ha σ B H hs e _ fun x B1 H1 n1 rx => by
    obtain ⟨a, xs, rfl, h1, h2⟩ := rx
    exact .inr ⟨a, xs, rfl, ex_t n1.ok h1, (k.mono n1).now n1.ok ⟨a, xs, rfl, h1, h2⟩⟩
/-! tests -/
theorem b_test {b : Bool} (h : EvG K Γ te (.bl b)) : EvB K Γ (tTest te) b := fun σ B H hs e Q k => h σ B H hs e _ fun v B1 H1 n1 r => ⟨b, r, k B1 H1 n1⟩
theorem b_B {b : Bool} (h : EvG K Γ te (.bl b)) : EvB K Γ (tB te) b := fun σ B H hs e Q k => h σ B H hs e _ fun v B1 H1 n1 r => ⟨b, r, k B1 H1 n1⟩
theorem b_and {a b : Bool} (ha : EvB K Γ t a) (hb : a = true → EvB K Γ u b) : EvB K Γ (tAnd t u) (a && b) := fun σ B H hs e Q k => ha σ B H hs e _ fun B1 H1 n1 => by
  cases a with
  | false =>
    rw [if_neg Bool.false_ne_true]
    exact k B1 H1 n1
  | true =>
    rw [if_pos rfl]
    exact hb rfl σ B1 H1 (hs.mono n1.b) n1.ok Q fun B2 H2 n2 => k B2 H2 (n1.trans n2)
theorem b_or {a b : Bool} (ha : EvB K Γ t a) (hb : a = false → EvB K Γ u b) : EvB K Γ (tOr t u) (a || b) := fun σ B H hs e Q k => ha σ B H hs e _ fun B1 H1 n1 => by
  cases a with
  | true =>
    rw [if_pos rfl]
    exact k B1 H1 n1
  | false =>
    rw [if_neg Bool.false_ne_true]
    exact hb rfl σ B1 H1 (hs.mono n1.b) n1.ok Q fun B2 H2 n2 => k B2 H2 (n1.trans n2)
theorem b_not {a : Bool} (ha : EvB K Γ t a) : EvB K Γ (tNot t) (!a) := fun σ B H hs e Q k => ha σ B H hs e _ fun B1 H1 n1 => k B1 H1 n1
theorem EvB.to {a b : Bool} (h : EvB K Γ t a) (e : a = b) : EvB K Γ t b := e ▸ h
theorem b_yes : EvB K Γ tYes true := fun σ B H hs e Q k => k B H (.refl e)
theorem g_if {b : Bool} (h : EvB K Γ t b) (h1 : b = true → EvG K Γ ta d) (h2 : b = false → EvG K Γ tb d) : EvG K Γ (tIf t ta tb) d := fun σ B H hs e Q k => h σ B H hs e _ fun B1 H1 n1 => by
  cases b with
  | true =>
    rw [if_pos rfl]
    exact h1 rfl σ B1 H1 (hs.mono n1.b) n1.ok Q (k.mono n1)
  | false =>
    rw [if_neg Bool.false_ne_true]
    exact h2 rfl σ B1 H1 (hs.mono n1.b) n1.ok Q (k.mono n1)

/-! ### a def's promise over data -/
def Pu (K : PySem.W.Frag) (f : List Da → Da → Prop) : Sp := fun vs H Q _ => ∃ B ds d, Ex B H ∧ RpA K B ds vs ∧ f ds d ∧ Goes K B H d Q
theorem g_call {f : List Da → Da → Prop} {tr : TA} {ds : List Da} {E : XK} (h : EvS K Γ tr ds) (hf : f ds d) : EvG K Γ (tCall (Pu K f) [] E tr) d := fun σ B H hs e Q k =>
  h σ B H hs e _ fun xs B1 H1 n1 rs => ⟨B1, ds, d, n1.ok, by rw [List.append_nil]; exact rs, hf, k.mono n1⟩
theorem rp_ins {C : Addr} {ns : List Str} {ds : List Da} {v : V} (r : Rp K B (.ins C ns ds) v) : ∃ a dx xs, v = .ref a ∧ B a = some (.ins C dx (ns.zip xs)) ∧ RpA K B ds xs := r
theorem lookup_no {m : Str} : ∀ {ns : List Str} {xs : List V}, m ∉ ns → (ns.zip xs).lookup m = none
  | [], _, _ => rfl
  | n :: ns, [], _ => rfl
  | n :: ns, x :: xs, h => by
    have h1 : (m == n) = false := by
      simp only [List.mem_cons, not_or] at h
      simpa using h.1
    show List.lookup m ((n, x) :: ns.zip xs) = none
    rw [List.lookup_cons, h1]
    exact lookup_no (fun z => h (List.mem_cons_of_mem _ z))
theorem g_meth {C : Addr} {m : Str} {f : List Da → Da → Prop} {tr : TA} {ns : List Str} {fs ds : List Da} {E : XK} (ho : EvG K Γ ta (.ins C ns fs)) (h : EvS K Γ tr ds) (hm : m ∉ ns) (hf : f (.ins C ns fs :: ds) d) : EvG K Γ (tMeth C m (Pu K f) [] E ta tr) d := fun σ B H hs e Q k =>
  ho σ B H hs e _ fun x B1 H1 n1 rx => by
    obtain ⟨a, dx, xs, rfl, h1, h2⟩ := id rx
    refine ⟨a, dx, _, rfl, n1.ok _ _ h1, lookup_no hm, ?_⟩
    exact h σ B1 H1 (hs.mono n1.b) n1.ok _ fun ys B2 H2 n2 rs => ⟨B2, .ins C ns fs :: ds, d, n2.ok, by rw [List.append_nil]; exact ⟨_, _, rfl, Rp.mono n2.b _ _ rx, rs⟩, hf, k.mono (n1.trans n2)⟩
theorem lookup_at : ∀ {ns : List Str} {xs : List V} {ds : List Da} {f : Str}, RpA K B ds xs → (ns.zip ds).lookup f = some d → ∃ x, (ns.zip xs).lookup f = some x ∧ Rp K B d x
  | [], _, _, _, _, e => by
    rw [List.zip_nil_left] at e
    cases e
  | n :: ns, _, [], _, _, e => by
    rw [List.zip_nil_right] at e
    cases e
  | n :: ns, _, y :: ds, f, h, e => by
    obtain ⟨x, r, rfl, h2, h3⟩ := h
    rw [List.zip_cons_cons, List.lookup_cons] at e ⊢
    by_cases hf : (f == n) = true
    · rw [hf] at e ⊢
      cases (Option.some.inj e : y = _)
      exact ⟨x, rfl, h2⟩
    · have hf2 : (f == n) = false := by simpa using hf
      rw [hf2] at e ⊢
      exact lookup_at h3 e
/-- o.f -/
theorem g_fld {C : Addr} {f : Str} {ns : List Str} {fs : List Da} (ho : EvG K Γ ta (.ins C ns fs)) (c : Cls K C) (hn : NoAttr K C f) (hl : (ns.zip fs).lookup f = some d) : EvG K Γ (tFld K ta f) d := fun σ B H hs e Q k =>
  ho σ B H hs e _ fun x B1 H1 n1 rx => by
    obtain ⟨a, dx, xs, rfl, h1, h2⟩ := rx
    obtain ⟨y, h3, h4⟩ := lookup_at h2 hl
    exact ⟨a, C, dx, _, y, rfl, n1.ok _ _ h1, c, hn, h3, (k.mono n1).now n1.ok h4⟩

/-! ### what is walked -/
structure WalkD (K : PySem.W.Frag) (J : It) (B : Hp) (ds : List Da) : Prop where
  goes : ∀ i H, i < ds.length → Ex B H → J.go i H
  stops : ∀ H, Ex B H → J.stop ds.length H
  yld : ∀ i B1 H x H2 d, ds[i]? = some d → Ex B B1 → Ex B1 H → J.yld i H x H2 → ∃ B2, Nx B1 H B2 H2 ∧ Rp K B2 d x
def EvI (K : PySem.W.Frag) (Γ : List (Option Da)) (wi : TI) (ds : List Da) : Prop := ∀ σ B H, Sl K B Γ σ → Ex B H → ∀ R : It → Hp → Prop, (∀ J B2 H2, Nx B H B2 H2 → WalkD K J B2 ds → R J H2) → wi σ H R
theorem WalkD.mono {J : It} {B2 : Hp} {ds : List Da} (w : WalkD K J B ds) (e : Ex B B2) : WalkD K J B2 ds :=
  ⟨fun i H hi h => w.goes i H hi (e.trans h), fun H h => w.stops H (e.trans h), fun i B1 H x H2 d hd h1 h2 y => w.yld i B1 H x H2 d hd (e.trans h1) h2 y⟩
theorem i_list {tl : TE} {ds : List Da} (h : EvG K Γ tl (.lst ds)) : EvI K Γ (iList K tl) ds := fun σ B H hs e R k =>
  h σ B H hs e _ fun x B1 H1 n1 rx => by
    obtain ⟨a, xs, rfl, h1, h2⟩ := rx
    refine ⟨a, rfl, ⟨xs, sq1 n1.ok h1⟩, k _ B1 H1 n1 ⟨fun i H hi e2 => ?_, fun H e2 => ⟨xs, sq1 e2 h1, by rw [h2.length]; exact Nat.le_refl _⟩, fun i B2 H x H2 d hd e2 e3 y => ?_⟩⟩
    · have hi2 : i < xs.length := by rw [h2.length]; exact hi
      exact ⟨xs, xs[i], sq1 e2 h1, by simp [hi2]⟩
    · obtain ⟨rfl, y⟩ := y
      obtain ⟨z, h3, h4⟩ := h2.get hd
      have hx : xs[i]? = some x := y xs (sq1 (e2.trans e3) h1)
      rw [h3] at hx
      cases hx
      exact ⟨B2, .refl e3, Rp.mono e2 _ _ h4⟩
theorem i_tup {tl : TE} {ds : List Da} (h : EvG K Γ tl (.tup ds)) : EvI K Γ (iTup K tl) ds := fun σ B H hs e R k =>
  h σ B H hs e _ fun x B1 H1 n1 rx => by
    obtain ⟨a, xs, rfl, h1, h2⟩ := rx
    refine ⟨a, rfl, ⟨xs, ex_t n1.ok h1⟩, k _ B1 H1 n1 ⟨fun i H hi e2 => ?_, fun H e2 => ⟨xs, ex_t e2 h1, by rw [h2.length]; exact Nat.le_refl _⟩, fun i B2 H x H2 d hd e2 e3 y => ?_⟩⟩
    · have hi2 : i < xs.length := by rw [h2.length]; exact hi
      exact ⟨xs, xs[i], ex_t e2 h1, by simp [hi2]⟩
    · obtain ⟨rfl, y⟩ := y
      obtain ⟨z, h3, h4⟩ := h2.get hd
      have hx : xs[i]? = some x := y xs (ex_t (e2.trans e3) h1)
      rw [h3] at hx
      cases hx
      exact ⟨B2, .refl e3, Rp.mono e2 _ _ h4⟩
/-- the ints lo, lo + 1, .. -/
def rng (lo : Int) (n : Nat) : List Da := (List.range n).map fun i => .int (lo + (i : Nat))
theorem rng_length (lo : Int) (n : Nat) : (rng lo n).length = n := by
  unfold rng
  rw [List.length_map, List.length_range]
theorem rng_get {lo : Int} {n i : Nat} (h : (rng lo n)[i]? = some d) : i < n ∧ d = .int (lo + (i : Nat)) := by
  unfold rng at h
  rw [List.getElem?_map] at h
  by_cases hi : i < n
  · rw [List.getElem?_range hi] at h
    exact ⟨hi, (Option.some.inj h).symm⟩
  · rw [List.getElem?_eq_none (by rw [List.length_range]; omega)] at h
    cases h
theorem walk_rng {lo : Int} {n : Nat} : WalkD K (Itr lo n) B (rng lo n) :=
  ⟨fun i H hi _ => by rw [rng_length] at hi; exact hi, fun H _ => by rw [rng_length]; exact Nat.le_refl _, fun i B1 H x H2 d hd _ e y => by
    obtain ⟨rfl, y⟩ := y
    obtain ⟨_, rfl⟩ := rng_get hd
    exact ⟨B1, .refl e, y⟩⟩
theorem i_rng1 {ta : TA} {n : Int} (h : EvS K Γ ta [.int n]) (hn : n ≤ 1000000) (h0 : -1000000 ≤ n) : EvI K Γ (iRng1 ta) (rng 0 n.toNat) := fun σ B H hs e R k =>
  h σ B H hs e _ fun xs B1 H1 n1 rs => by
    obtain ⟨x, rfl, rx⟩ := rpa1 rs
    obtain rfl : x = .int n := rx
    exact ⟨n, rfl, by omega, by omega, k _ B1 H1 n1 walk_rng⟩
theorem i_rng2 {ta : TA} {lo n : Int} (h : EvS K Γ ta [.int lo, .int n]) (hn : n ≤ 1000000) (h0 : -1000000 ≤ n) (h1 : -1000000 ≤ lo) (h2 : lo ≤ 1000000) : EvI K Γ (iRng2 ta) (rng lo (n - lo).toNat) := fun σ B H hs e R k =>
  h σ B H hs e _ fun xs B1 H1 n1 rs => by
    obtain ⟨x, y, rfl, rx, ry⟩ := rpa2 rs
    obtain rfl : x = .int lo := rx
    obtain rfl : y = .int n := ry
    exact ⟨lo, n, rfl, ⟨by omega, by omega, by omega, by omega⟩, k _ B1 H1 n1 walk_rng⟩

/-! ### comprehensions -/
/-- the target's store at an item, and what is known behind it -/
def Tgt (K : PySem.W.Frag) (Γ : List (Option Da)) (vs : List Nat) (g : TG) (tt : TT) (te : TE) (ds : List Da) (f : Da → Bool) (v : Da → Da) : Prop :=
  ∀ d ∈ ds, ∀ x σ B H, Sl K B Γ σ → Ex B H → Rp K B d x → ∀ Q : L2.St → Hp → Prop, (∀ σ2, wipe σ2 vs = wipe σ vs → ∀ Γ2, Sl K B Γ2 σ2 → EvB K Γ2 tt (f d) → (f d = true → EvG K Γ2 te (v d)) → Q σ2 H) → g x (wipe σ vs) H Q
theorem g_lc {wi : TI} {g : TG} {vs : List Nat} {ds : List Da} (f : Da → Bool) (v : Da → Da) (hi : EvI K Γ wi ds) (hl : ds.length ≤ 500000) (hb : Tgt K Γ vs g tt te ds f v) :
    EvG K Γ (tLc wi g tt te vs) (.lst ((ds.filter f).map v)) := fun σ B H hs e Q k =>
  hi σ B H hs e _ fun J B1 H1 n1 w Dl hD => by
    refine ⟨fun i m H' => m = ds.length - i ∧ i ≤ ds.length ∧ ∃ B' acc, Nx B1 H1 B' H' ∧ B' Dl = none ∧ H' Dl = some (.lst acc) ∧ RpA K B' (((ds.take i).filter f).map v) acc,
      ⟨ds.length, by simp, Nat.zero_le _, B1, [], .out n1.ok hD, fresh_back n1.ok hD, upd_same, rfl⟩, ?_⟩
    rintro i m H' ⟨rfl, hi, B', acc, n2, hB, hH, ra⟩
    by_cases hlt : i < ds.length
    · refine .inr ⟨w.goes i H' hlt (n2.b.trans n2.ok), fun H'' => ∃ B'' acc, Nx B1 H1 B'' H'' ∧ B'' Dl = none ∧ H'' Dl = some (.lst acc) ∧ RpA K B'' (((ds.take (i + 1)).filter f).map v) acc,
        fun H'' z => ⟨ds.length - (i + 1), by omega, rfl, hlt, z⟩, fun x H'' y => ?_⟩
      obtain ⟨B3, n3, rx⟩ := w.yld i B' H' x H'' ds[i] (by simp [hlt]) n2.b n2.ok y
      have m3 := n3.apart hB hH
      have et : (ds.take (i + 1)) = ds.take i ++ [ds[i]] := by
        rw [List.take_add_one]
        simp [hlt]
      refine hb ds[i] (List.getElem_mem _) x σ B3 H'' (hs.mono ((n1.b.trans n2.b).trans n3.b)) n3.ok rx _ fun σ2 hw Γ2 hs2 ht he => ⟨hw, ?_⟩
      refine ht σ2 B3 H'' hs2 n3.ok _ fun B4 H4 n4 => ?_
      have m4 := n4.apart m3.1 m3.2
      rw [et, List.filter_append, List.map_append]
      cases hf : f ds[i] with
      | false =>
        rw [if_neg Bool.false_ne_true]
        refine ⟨B4, acc, (n2.trans n3).trans n4, m4.1, m4.2, ?_⟩
        rw [List.filter_cons, if_neg (by rw [hf]; decide)]
        show RpA K B4 (_ ++ []) acc
        rw [List.append_nil]
        exact RpA.mono (n3.b.trans n4.b) _ _ ra
      | true =>
        rw [if_pos rfl]
        refine he hf σ2 B4 H4 (hs2.mono n4.b) n4.ok _ fun z B5 H5 n5 rz => ?_
        have m5 := n5.apart m4.1 m4.2
        refine ⟨acc, m5.2, size_lt ?_, B5, acc ++ [z], ?_, m5.1, upd_same, ?_⟩
        · rw [ra.length, List.length_map]
          have := List.length_filter_le f (ds.take i)
          rw [List.length_take] at this
          omega
        · have n6 := ((n2.trans n3).trans n4).trans n5
          exact ⟨ex_mut n6.ok m5.1 (ml_of m5.2), n6.b, Ex.mut n6.h hD (ml_of m5.2), n6.nw⟩
        · rw [List.filter_cons, if_pos hf]
          exact (RpA.mono ((n3.b.trans n4.b).trans n5.b) _ _ ra).append (.one rz)
    · have ei : i = ds.length := by omega
      subst ei
      rw [List.take_length] at ra
      refine .inl ⟨w.stops H' (n2.b.trans n2.ok), ?_⟩
      have n3 : Nx B1 H1 (upd B' Dl (.lst acc)) H' := ⟨ex_frz0 n2.ok hH rfl, n2.b.trans (.new hB), n2.h, fun a h1 h2 => by
          have hne : a ≠ Dl := by
            intro z
            subst z
            exact h2.ne hD
          rw [upd_ne hne]
          exact n2.nw a h1 h2⟩
      exact k _ _ _ (n1.trans n3) ⟨Dl, acc, rfl, upd_same, RpA.mono (.new hB) _ _ ra⟩
/-- a target that is a name -/
theorem t_name {j : Nat} {vs : List Nat} {ds : List Da} {f : Da → Bool} {v : Da → Da} (hw : ∀ (σ : L2.St) (x : V), wipe ((wipe σ vs).set j (some x)) vs = wipe σ vs)
    (h : ∀ d ∈ ds, EvB K ((wipeG Γ vs).set j (some d)) tt (f d) ∧ (f d = true → EvG K ((wipeG Γ vs).set j (some d)) te (v d))) : Tgt K Γ vs (gName j) tt te ds f v := fun d hd x σ B H hs e r Q k =>
  k _ (hw σ x) _ ((hs.wipe vs).set j r) (h d hd).1 (h d hd).2
/-- a target that is a pair of names -/
theorem t_pair {i j : Nat} {vs : List Nat} {ds : List Da} {f : Da → Bool} {v : Da → Da} (hw : ∀ (σ : L2.St) (x y : V), wipe (((wipe σ vs).set i (some x)).set j (some y)) vs = wipe σ vs)
    (h : ∀ d ∈ ds, ∃ d1 d2, d = .tup [d1, d2] ∧ EvB K (((wipeG Γ vs).set i (some d1)).set j (some d2)) tt (f d) ∧ (f d = true → EvG K (((wipeG Γ vs).set i (some d1)).set j (some d2)) te (v d))) :
    Tgt K Γ vs (gTup K 2 (gCons (gName i) (gCons (gName j) gNil))) tt te ds f v := fun d hd x σ B H hs e r Q k => by
  obtain ⟨d1, d2, rfl, h1, h2⟩ := h d hd
  obtain ⟨a, xs, rfl, h3, h4⟩ := r
  obtain ⟨x, y, rfl, r1, r2⟩ := rpa2 h4
  exact ⟨a, _, rfl, ex_t e h3, rfl, x, [y], rfl, y, [], rfl, rfl, k _ (hw σ x y) _ (((hs.wipe vs).set i r1).set j r2) h1 h2⟩

/-! ### statements -/
variable {σ : L2.St} {D : Ends} {tu tz : TS}
theorem q_asg {i : Nat} (h : EvG K Γ te d) (hs : Sl K B Γ σ) (e : Ex B H) (k : ∀ v B2 H2, Nx B H B2 H2 → Rp K B2 d v → Sl K B2 (Γ.set i (some d)) (σ.set i (some v)) → tz D (σ.set i (some v)) H2) : tSeq (tAsg te (gName i)) tz D σ H :=
  h σ B H hs e _ fun v B2 H2 n r => k v B2 H2 n r ((hs.mono n.b).set i r)
theorem q_ret (h : EvG K Γ te d) (hs : Sl K B Γ σ) (e : Ex B H) (k : Goes K B H d D.rt) : tRet te D σ H := h σ B H hs e _ k
theorem q_if {b : Bool} {t1 t2 : TS} (h : EvB K Γ t b) (hs : Sl K B Γ σ) (e : Ex B H) (h1 : b = true → ∀ B2 H2, Nx B H B2 H2 → Sl K B2 Γ σ → t1 { D with nx := tz D } σ H2) (h2 : b = false → ∀ B2 H2, Nx B H B2 H2 → Sl K B2 Γ σ → t2 { D with nx := tz D } σ H2) :
    tSeq (tIfS t t1 t2) tz D σ H := h σ B H hs e _ fun B2 H2 n => by
  cases b with
  | true =>
    rw [if_pos rfl]
    exact h1 rfl B2 H2 n (hs.mono n.b)
  | false =>
    rw [if_neg Bool.false_ne_true]
    exact h2 rfl B2 H2 n (hs.mono n.b)
theorem z_if {b : Bool} {t1 t2 : TS} (h : EvB K Γ t b) (hs : Sl K B Γ σ) (e : Ex B H) (h1 : b = true → ∀ B2 H2, Nx B H B2 H2 → Sl K B2 Γ σ → t1 D σ H2) (h2 : b = false → ∀ B2 H2, Nx B H B2 H2 → Sl K B2 Γ σ → t2 D σ H2) :
    tIfS t t1 t2 D σ H := h σ B H hs e _ fun B2 H2 n => by
  cases b with
  | true =>
    rw [if_pos rfl]
    exact h1 rfl B2 H2 n (hs.mono n.b)
  | false =>
    rw [if_neg Bool.false_ne_true]
    exact h2 rfl B2 H2 n (hs.mono n.b)
theorem z_asg {i : Nat} (h : EvG K Γ te d) (hs : Sl K B Γ σ) (e : Ex B H) (k : ∀ v B2 H2, Nx B H B2 H2 → Rp K B2 d v → Sl K B2 (Γ.set i (some d)) (σ.set i (some v)) → D.nx (σ.set i (some v)) H2) : tAsg te (gName i) D σ H :=
  h σ B H hs e _ fun v B2 H2 n r => k v B2 H2 n r ((hs.mono n.b).set i r)
/-- an if without else -/
theorem q_when {b : Bool} {t1 : TS} (h : EvB K Γ t b) (hs : Sl K B Γ σ) (e : Ex B H) (h1 : b = true → ∀ B2 H2, Nx B H B2 H2 → Sl K B2 Γ σ → t1 { D with nx := tz D } σ H2) (h2 : b = false → ∀ B2 H2, Nx B H B2 H2 → Sl K B2 Γ σ → tz D σ H2) :
    tSeq (tIfS t t1 tNext) tz D σ H := q_if h hs e h1 h2
theorem z_when {b : Bool} {t1 : TS} (h : EvB K Γ t b) (hs : Sl K B Γ σ) (e : Ex B H) (h1 : b = true → ∀ B2 H2, Nx B H B2 H2 → Sl K B2 Γ σ → t1 D σ H2) (h2 : b = false → ∀ B2 H2, Nx B H B2 H2 → Sl K B2 Γ σ → D.nx σ H2) :
    tIfS t t1 tNext D σ H := z_if h hs e h1 h2
theorem q_drop (h : EvG K Γ te d) (hs : Sl K B Γ σ) (e : Ex B H) (k : ∀ B2 H2, Nx B H B2 H2 → Sl K B2 Γ σ → tz D σ H2) : tSeq (tDrop te) tz D σ H :=
  h σ B H hs e _ fun v B2 H2 n _ => k B2 H2 n (hs.mono n.b)
/-- a for: Pv by the turn, the slots, the data's heap, the heap -/
theorem z_for {wi : TI} {g : TG} {ds : List Da} (hi : EvI K Γ wi ds) (hs : Sl K B Γ σ) (e : Ex B H) (Pv : Nat → L2.St → Hp → Hp → Prop)
    (h0 : ∀ B1 H1, Nx B H B1 H1 → Pv 0 σ B1 H1) (hp : ∀ i σ' B' H', Pv i σ' B' H' → Ex B' H')
    (hb : ∀ i d x σ' B' H' B2 H2, ds[i]? = some d → Ex B B' → Pv i σ' B' H' → Nx B' H' B2 H2 → Rp K B2 d x →
      g x σ' H2 fun σ2 H3 => tu { D with nx := fun σ3 H4 => ∃ B4, Ex B' B4 ∧ Pv (i + 1) σ3 B4 H4, ct := fun σ3 H4 => ∃ B4, Ex B' B4 ∧ Pv (i + 1) σ3 B4 H4, bk := D.nx } σ2 H3)
    (hd : ∀ σ' B' H', Ex B B' → Pv ds.length σ' B' H' → D.nx σ' H') : tFor wi g tu D σ H :=
  hi σ B H hs e _ fun J B1 H1 n1 w => by
    refine ⟨fun i m σ' H' => m = ds.length - i ∧ i ≤ ds.length ∧ ∃ B', Ex B1 B' ∧ Pv i σ' B' H', ⟨ds.length, by simp, Nat.zero_le _, B1, .refl _, h0 B1 H1 n1⟩, ?_⟩
    rintro i m σ' H' ⟨rfl, hi, B', e1, p⟩
    have e2 := hp i σ' B' H' p
    by_cases hlt : i < ds.length
    · refine .inr ⟨w.goes i H' hlt (e1.trans e2), fun σ3 H4 => ∃ B4, Ex B' B4 ∧ Pv (i + 1) σ3 B4 H4, fun σ3 H4 z => ?_, fun x H2 y => ?_⟩
      · obtain ⟨B4, e4, p4⟩ := z
        exact ⟨ds.length - (i + 1), by omega, rfl, hlt, B4, e1.trans e4, p4⟩
      · obtain ⟨B2, n2, rx⟩ := w.yld i B' H' x H2 ds[i] (by simp [hlt]) e1 e2 y
        exact hb i ds[i] x σ' B' H' B2 H2 (by simp [hlt]) (n1.b.trans e1) p n2 rx
    · have ei : i = ds.length := by omega
      subst ei
      exact .inl ⟨w.stops H' (e1.trans e2), hd σ' B' H' (n1.b.trans e1) p⟩
theorem z_while {σ : L2.St} (Pv : Nat → L2.St → Hp → Hp → Prop) (m0 : Nat) (h0 : Pv m0 σ B H)
    (ht : ∀ m σ' B' H', Pv m σ' B' H' → ∃ Γ' b, Sl K B' Γ' σ' ∧ Ex B' H' ∧ EvB K Γ' t b ∧
      (b = true → ∀ B2 H2, Nx B' H' B2 H2 → tu { D with nx := fun σ3 H4 => ∃ m', m' < m ∧ ∃ B4, Pv m' σ3 B4 H4, ct := fun σ3 H4 => ∃ m', m' < m ∧ ∃ B4, Pv m' σ3 B4 H4, bk := D.nx } σ' H2) ∧
      (b = false → ∀ B2 H2, Nx B' H' B2 H2 → D.nx σ' H2)) : tWhile t tu D σ H := by
  refine ⟨fun m σ' H' => ∃ B', Pv m σ' B' H', ⟨m0, B, h0⟩, fun m σ' H' hw => ?_⟩
  obtain ⟨B', p⟩ := hw
  obtain ⟨Γ', b, s1, e1, t1, h1, h2⟩ := ht m σ' B' H' p
  refine t1 σ' B' H' s1 e1 _ fun B2 H2 n => ?_
  cases b with
  | true =>
    rw [if_pos rfl]
    exact ⟨_, fun _ _ z => z, h1 rfl B2 H2 n⟩
  | false =>
    rw [if_neg Bool.false_ne_true]
    exact h2 rfl B2 H2 n
/-! ### lists that change -/
theorem Nx.mut {B2 H2 : Hp} {l : Addr} {o : HO} (n : Nx B H B2 H2) (h0 : H l = none) (hB : B2 l = none) (m : ML H2 l) : Nx B H B2 (upd H2 l o) := ⟨ex_mut n.ok hB m, n.b, Ex.mut n.h h0 m, n.nw⟩
theorem Nx.frz {B2 H2 : Hp} {l : Addr} {o : HO} (n : Nx B H B2 H2) (h0 : H l = none) (hB : B2 l = none) (hH : H2 l = some o) (hc : notC o = true := by rfl) : Nx B H (upd B2 l o) H2 := ⟨ex_frz0 n.ok hH hc, n.b.trans (.new hB), n.h, fun a h1 h2 => by
    have hne : a ≠ l := by
      intro z
      subst z
      exact h2.ne h0
    rw [upd_ne hne]
    exact n.nw a h1 h2⟩
theorem z_app {i l : Addr} {xs : List V} (hv : σ[i]? = some (some (.ref l))) (h : EvG K Γ te d) (hs : Sl K B Γ σ) (e : Ex B H) (hB : B l = none) (hl : H l = some (.lst xs)) (hz : xs.length < 1000000)
    (k : ∀ v B2 H2, Nx B H B2 H2 → Rp K B2 d v → D.nx σ (upd H2 l (.lst (xs ++ [v])))) : tDrop (tBM K "list" rAppend (tVar i) (tCons te tNil)) D σ H :=
  ⟨.ref l, hv, .inl ⟨rfl, xs, .inl (.inl hl)⟩, h σ B H hs e _ fun v B2 H2 n r => ⟨l, xs, v, rfl, rfl, (n.apart hB hl).2, size_lt hz, k v B2 H2 n r⟩⟩
theorem z_setL {i l j : Addr} {xs : List V} (hv : σ[i]? = some (some (.ref l))) (h : EvG K Γ te d) (hi : EvG K Γ tb (.int (j : Int))) (hs : Sl K B Γ σ) (e : Ex B H) (hB : B l = none) (hl : H l = some (.lst xs)) (hj : j < xs.length)
    (k : ∀ v B2 H2, Nx B H B2 H2 → Rp K B2 d v → D.nx σ (upd H2 l (.lst (xs.set j v)))) : tAsg te (gSub (tVar i) tb rSetL) D σ H :=
  h σ B H hs e _ fun v B1 H1 n1 r1 => ⟨.ref l, hv, hi σ B1 H1 (hs.mono n1.b) n1.ok _ fun y B2 H2 n2 r2 => by
    obtain rfl : y = .int (j : Int) := r2
    exact ⟨l, xs, (j : Int), j, rfl, rfl, ((n1.trans n2).apart hB hl).2, ixN_nat hj, k v B2 H2 (n1.trans n2) (Rp.mono n2.b _ _ r1)⟩⟩
theorem q_app {i l : Addr} {xs : List V} (hv : σ[i]? = some (some (.ref l))) (h : EvG K Γ te d) (hs : Sl K B Γ σ) (e : Ex B H) (hB : B l = none) (hl : H l = some (.lst xs)) (hz : xs.length < 1000000)
    (k : ∀ v B2 H2, Nx B H B2 H2 → Rp K B2 d v → tz D σ (upd H2 l (.lst (xs ++ [v])))) : tSeq (tDrop (tBM K "list" rAppend (tVar i) (tCons te tNil))) tz D σ H := z_app (D := { D with nx := tz D }) hv h hs e hB hl hz k
theorem q_setL {i l j : Addr} {xs : List V} (hv : σ[i]? = some (some (.ref l))) (h : EvG K Γ te d) (hi : EvG K Γ tb (.int (j : Int))) (hs : Sl K B Γ σ) (e : Ex B H) (hB : B l = none) (hl : H l = some (.lst xs)) (hj : j < xs.length)
    (k : ∀ v B2 H2, Nx B H B2 H2 → Rp K B2 d v → tz D σ (upd H2 l (.lst (xs.set j v)))) : tSeq (tAsg te (gSub (tVar i) tb rSetL)) tz D σ H := z_setL (D := { D with nx := tz D }) hv h hi hs e hB hl hj k
theorem q_for {wi : TI} {g : TG} {ds : List Da} (hi : EvI K Γ wi ds) (hs : Sl K B Γ σ) (e : Ex B H) (Pv : Nat → L2.St → Hp → Hp → Prop)
    (h0 : ∀ B1 H1, Nx B H B1 H1 → Pv 0 σ B1 H1) (hp : ∀ i σ' B' H', Pv i σ' B' H' → Ex B' H')
    (hb : ∀ i d x σ' B' H' B2 H2, ds[i]? = some d → Ex B B' → Pv i σ' B' H' → Nx B' H' B2 H2 → Rp K B2 d x →
      g x σ' H2 fun σ2 H3 => tu { D with nx := fun σ3 H4 => ∃ B4, Ex B' B4 ∧ Pv (i + 1) σ3 B4 H4, ct := fun σ3 H4 => ∃ B4, Ex B' B4 ∧ Pv (i + 1) σ3 B4 H4, bk := tz D } σ2 H3)
    (hd : ∀ σ' B' H', Ex B B' → Pv ds.length σ' B' H' → tz D σ' H') : tSeq (tFor wi g tu) tz D σ H := z_for (D := { D with nx := tz D }) hi hs e Pv h0 hp hb hd
theorem q_while {σ : L2.St} (Pv : Nat → L2.St → Hp → Hp → Prop) (m0 : Nat) (h0 : Pv m0 σ B H)
    (ht : ∀ m σ' B' H', Pv m σ' B' H' → ∃ Γ' b, Sl K B' Γ' σ' ∧ Ex B' H' ∧ EvB K Γ' t b ∧
      (b = true → ∀ B2 H2, Nx B' H' B2 H2 → tu { D with nx := fun σ3 H4 => ∃ m', m' < m ∧ ∃ B4, Pv m' σ3 B4 H4, ct := fun σ3 H4 => ∃ m', m' < m ∧ ∃ B4, Pv m' σ3 B4 H4, bk := tz D } σ' H2) ∧
      (b = false → ∀ B2 H2, Nx B' H' B2 H2 → tz D σ' H2)) : tSeq (tWhile t tu) tz D σ H := z_while (D := { D with nx := tz D }) Pv m0 h0 ht
/-- an item of a list that changes, as an expression -/
theorem z_ixM {i l j : Addr} {xs : List V} {v : V} {Q : VK} (hv : σ[i]? = some (some (.ref l))) (hi : EvG K Γ tb (.int (j : Int))) (hs : Sl K B Γ σ) (e : Ex B H) (hB : B l = none) (hl : H l = some (.lst xs)) (hj : xs[j]? = some v)
    (k : ∀ B2 H2, Nx B H B2 H2 → Q v H2) : tOp (rIxL K) (tVar i) tb σ H Q :=
  ⟨.ref l, hv, hi σ B H hs e _ fun y B2 H2 n2 r2 => by
    obtain rfl : y = .int (j : Int) := r2
    exact ⟨l, xs, (j : Int), v, rfl, rfl, .inl (.inl (n2.apart hB hl).2), atI_nat hj, k B2 H2 n2⟩⟩
end
end Fo

namespace Fo
open PySem PySem.Spec PyProof.Rows L2
open Evl (ixN_nat)
variable [Nm]
/-! ### callees by name -/
structure Cal (P : Program) (w : World) (K : PySem.W.Frag) (mg : Str → Option Value) (base : Heap) (CX : CXT) (k : Nat) (x : Str) (ps : List Str) (sp : Sp) : Prop where
  ex : ∃ f fd, FnOk P w K mg base CX k f fd ps sp ∧ mg x = some (.ref f) ∧ PySem.W.keepIn K (.ref f) = true ∧ Binds K fd ps []
structure CalM (P : Program) (w : World) (K : PySem.W.Frag) (mg : Str → Option Value) (base : Heap) (CX : CXT) (k : Nat) (C : Addr) (m : Str) (ps : List Str) (sp : Sp) : Prop where
  ex : ∃ f fd, FnOk P w K mg base CX k f fd ps sp ∧ Meth K C m f ∧ Binds K fd ps []
section
variable {X : Cx} {CX : CXT} {k : Nat} {ps : List Str} {sp : Sp} {E : XK} {x m : Str} {p pos apos : Pos} {e o : Expr} {es : List Expr} {ta : TE} {t : TA} {C : Addr}
theorem pe_cal (c : Cal X.prog X.w X.K X.mg X.base CX k x ps sp) (hr : Room k X.A) (hx : Passes CX X E) (ha : PA X (e :: es) t) (hg : Gl X x := by rfl)
    (hdb : (x == ("__debug__" : Str)) = false := by decide) (he : starEach (e :: es) X.env = (false, eval e X.env) :: starEach es X.env := by rfl) (hpl : (backTo pos (starEach es X.env)).any (·.1) = false := by rfl) :
    PE X (.Call (.Name x p) (e :: es) [] pos) (tCall sp [] E t) := by
  obtain ⟨f, fd, F, hm, hk, hb⟩ := c.ex
  exact pe_call F hr hg hm hk hb .nil hx ha hdb he hpl
theorem pe_calm {pl : Sem Bool} (he : PE X o ta) (c : Cls X.K C) (M : CalM X.prog X.w X.K X.mg X.base CX k C m ps sp) (hr : Room k X.A) (hx : Passes CX X E) (ha : PA X (e :: es) t)
    (hst : starEach (e :: es) X.env = (false, eval e X.env) :: starEach es X.env := by rfl) (hpl : (backTo pos (starEach es X.env)).any (·.1) = false := by rfl)
    (ht : eval (.Call (.Attribute o m apos) (e :: es) [] pos) X.env = (do
      let ov ← eval o X.env
      standAt apos.atName
      let (f, first) ← holding [ov] (getMethod ov m pl)
      callWith pos f first (backTo pos (starEach (e :: es) X.env)) (backToKw pos (keywordEach [] X.env))) := by rfl) :
    PE X (.Call (.Attribute o m apos) (e :: es) [] pos) (tMeth C m sp [] E ta t) := by
  obtain ⟨f, fd, F, hm, hb⟩ := M.ex
  exact pe_meth he c hm F hr hb .nil hx ha hst hpl ht
theorem pe_calm0 {pl : Sem Bool} (he : PE X o ta) (c : Cls X.K C) (M : CalM X.prog X.w X.K X.mg X.base CX k C m ps sp) (hr : Room k X.A) (hx : Passes CX X E)
    (ht : eval (.Call (.Attribute o m apos) [] [] pos) X.env = (do
      let ov ← eval o X.env
      standAt apos.atName
      let (f, first) ← holding [ov] (getMethod ov m pl)
      callWith pos f first (backTo pos (starEach [] X.env)) (backToKw pos (keywordEach [] X.env))) := by rfl) :
    PE X (.Call (.Attribute o m apos) [] [] pos) (tMeth C m sp [] E ta tNil) := by
  obtain ⟨f, fd, F, hm, hb⟩ := M.ex
  exact pe_meth0 he c hm F hr hb .nil hx ht
end
/-! ### isinstance -/
def tyD : Da → Option String
  | .non => some "NoneType"
  | .bl _ => some "bool"
  | .int _ => some "int"
  | .str _ => some "str"
  | .lst _ => some "list"
  | .tup _ => some "tuple"
  | .rng _ _ => none
  | .raw _ => none
  | .fn _ _ _ _ _ => none
  | .ins _ _ _ => none
section
variable {K : PySem.W.Frag} {B H : Hp} {Γ : List (Option Da)} {te ta tb tc : TE} {d d1 d2 d3 : Da}
theorem ty_of {T : String} {v : V} (e : Ex B H) : ∀ {d : Da}, tyD d = some T → Rp K B d v → TyX K H v (.type T)
  | .non, h, r => by
    cases h
    obtain rfl : v = .non := r
    exact .base .non
  | .bl _, h, r => by
    cases h
    obtain rfl : v = .bl _ := r
    exact .base (.bl _)
  | .int _, h, r => by
    cases h
    obtain rfl : v = .int _ := r
    exact .base (.int _)
  | .str _, h, r => by
    cases h
    obtain rfl : v = .str _ := r
    exact .base (.str _)
  | .lst _, h, r => by
    cases h
    obtain ⟨a, xs, rfl, h1, _⟩ := r
    exact .base (.lst (e _ _ h1))
  | .tup _, h, r => by
    cases h
    obtain ⟨a, xs, rfl, h1, _⟩ := r
    rcases ex_t e h1 with (h1 | ⟨o, h1⟩) | ⟨o, its, n, h1, h2, _⟩
    · exact .base (.tup h1)
    · exact .fTuple h1
    · exact .kTuple h1 h2
  | .rng _ _, h, _ => by cases h
  | .raw _, h, _ => by cases h
  | .fn _ _ _ _ _, h, _ => by cases h
  | .ins _ _ _, h, _ => by cases h
theorem g_isi {T c : String} {b : Bool} (ha : EvG K Γ ta d) (hT : tyD d = some T) (hb : kitB T c = some b) : EvG K Γ (tCB (rIsi K) (tCons ta (tCons (tC (.ty c)) tNil))) (.bl b) := fun σ B H hs e Q k =>
  ha σ B H hs e _ fun x B1 H1 n1 rx => ⟨x, .ty c, .type T, .type c, b, rfl, .ty c, ty_of n1.ok hT rx, kit_ty hb, (k.mono n1).now n1.ok rfl⟩
theorem g_isiT {T c1 c2 : String} {b1 b2 : Bool} (ha : EvG K Γ ta d) (hT : tyD d = some T) (h1 : kitB T c1 = some b1) (h2 : kitB T c2 = some b2) :
    EvG K Γ (tCB (rIsiT K) (tCons ta (tCons (tTup (tCons (tC (.ty c1)) (tCons (tC (.ty c2)) tNil))) tNil))) (.bl (b1 || b2)) := fun σ B H hs e Q k =>
  ha σ B H hs e _ fun x B1 H1 n1 rx => ⟨size_ok (by show 2 ≤ 1000000; decide), fun p hp => by
    have n2 : Nx B1 H1 B1 (upd H1 p (.tup [.ty c1, .ty c2])) := .out n1.ok hp
    refine ⟨x, p, [.ty c1, .ty c2], .type T, [.type c1, .type c2], b1 || b2, rfl, upd_same, .cons (.ty c1) (.cons (.ty c2) .nil), ty_of n2.ok hT rx, ?_, ((k.mono n1).mono n2).now n2.ok rfl⟩
    refine kitAny_cons (kit_ty h1) (fun hb => ?_) (fun hb => by rw [hb]; rfl)
    refine kitAny_cons (kit_ty h2) (fun hb2 => ?_) (fun hb2 => by rw [hb2, Bool.or_true])
    rw [hb, hb2]
    rfl⟩
def daInt : Da → Bool
  | .int _ => true
  | _ => false
def daBl : Da → Bool
  | .bl _ => true
  | _ => false
def daTup : Da → Bool
  | .tup _ => true
  | _ => false
def daLst : Da → Bool
  | .lst _ => true
  | _ => false
def daStr : Da → Bool
  | .str _ => true
  | _ => false
theorem kit_int {T : String} : ∀ {d : Da}, tyD d = some T → kitB T "int" = some (daInt d || daBl d)
  | .non, h => by cases h; decide +kernel
  | .bl _, h => by cases h; show _ = some true; decide +kernel
  | .int _, h => by cases h; show _ = some true; decide +kernel
  | .str _, h => by cases h; show _ = some false; decide +kernel
  | .lst _, h => by cases h; show _ = some false; decide +kernel
  | .tup _, h => by cases h; show _ = some false; decide +kernel
  | .rng _ _, h => by cases h
  | .raw _, h => by cases h
  | .fn _ _ _ _ _, h => by cases h
  | .ins _ _ _, h => by cases h
theorem kit_bool {T : String} : ∀ {d : Da}, tyD d = some T → kitB T "bool" = some (daBl d)
  | .non, h => by cases h; decide +kernel
  | .bl _, h => by cases h; show _ = some true; decide +kernel
  | .int _, h => by cases h; show _ = some false; decide +kernel
  | .str _, h => by cases h; show _ = some false; decide +kernel
  | .lst _, h => by cases h; show _ = some false; decide +kernel
  | .tup _, h => by cases h; show _ = some false; decide +kernel
  | .rng _ _, h => by cases h
  | .raw _, h => by cases h
  | .fn _ _ _ _ _, h => by cases h
  | .ins _ _ _, h => by cases h
theorem kit_tuple {T : String} : ∀ {d : Da}, tyD d = some T → kitB T "tuple" = some (daTup d)
  | .non, h => by cases h; decide +kernel
  | .bl _, h => by cases h; show _ = some false; decide +kernel
  | .int _, h => by cases h; show _ = some false; decide +kernel
  | .str _, h => by cases h; show _ = some false; decide +kernel
  | .lst _, h => by cases h; show _ = some false; decide +kernel
  | .tup _, h => by cases h; show _ = some true; decide +kernel
  | .rng _ _, h => by cases h
  | .raw _, h => by cases h
  | .fn _ _ _ _ _, h => by cases h
  | .ins _ _ _, h => by cases h
theorem kit_list {T : String} : ∀ {d : Da}, tyD d = some T → kitB T "list" = some (daLst d)
  | .non, h => by cases h; decide +kernel
  | .bl _, h => by cases h; show _ = some false; decide +kernel
  | .int _, h => by cases h; show _ = some false; decide +kernel
  | .str _, h => by cases h; show _ = some false; decide +kernel
  | .lst _, h => by cases h; show _ = some true; decide +kernel
  | .tup _, h => by cases h; show _ = some false; decide +kernel
  | .rng _ _, h => by cases h
  | .raw _, h => by cases h
  | .fn _ _ _ _ _, h => by cases h
  | .ins _ _ _, h => by cases h
theorem kit_str {T : String} : ∀ {d : Da}, tyD d = some T → kitB T "str" = some (daStr d)
  | .non, h => by cases h; decide +kernel
  | .bl _, h => by cases h; show _ = some false; decide +kernel
  | .int _, h => by cases h; show _ = some false; decide +kernel
  | .str _, h => by cases h; show _ = some true; decide +kernel
  | .lst _, h => by cases h; show _ = some false; decide +kernel
  | .tup _, h => by cases h; show _ = some false; decide +kernel
  | .rng _ _, h => by cases h
  | .raw _, h => by cases h
  | .fn _ _ _ _ _, h => by cases h
  | .ins _ _ _, h => by cases h
end
end Fo

namespace Fo
open PySem
/-! ### bits -/
theorem odd_part : ∀ b : Nat, 0 < b → ∃ k a, b = 2 ^ k * (2 * a + 1) := by
  intro b
  induction b using Nat.strongRecOn with
  | ind b ih =>
    intro hb
    by_cases h : b % 2 = 1
    · exact ⟨0, b / 2, by omega⟩
    · obtain ⟨k, a, e⟩ := ih (b / 2) (by omega) (by omega)
      refine ⟨k + 1, a, ?_⟩
      rw [Nat.pow_succ, Nat.mul_comm (2 ^ k) 2, Nat.mul_assoc, ← e]
      omega
theorem bitAnd_nat (x y : Nat) : Builtin.bitAnd (x : Int) (y : Int) = ((x &&& y : Nat) : Int) := by
  unfold Builtin.bitAnd
  rw [show decide ((0 : Int) ≤ (x : Int)) = true from decide_eq_true (by omega), show decide ((0 : Int) ≤ (y : Int)) = true from decide_eq_true (by omega)]
  rfl
theorem bitOr_nat (x y : Nat) : Builtin.bitOr (x : Int) (y : Int) = ((x ||| y : Nat) : Int) := by
  rw [L2.bitOr_nn (by omega) (by omega)]
  rfl
theorem bit_low (k a : Nat) : Builtin.bitAnd ((2 ^ k * (2 * a + 1) : Nat) : Int) (-((2 ^ k * (2 * a + 1) : Nat) : Int)) = ((2 ^ k : Nat) : Int) := by
  have h := PySem.W.kbt_low k (a : Int)
  have e : ((2 ^ k * (2 * a + 1) : Nat) : Int) = 2 ^ k * (2 * (a : Int) + 1) := by
    rw [Int.natCast_mul, PySem.W.kbt_cast]
    rfl
  rw [e, h, PySem.W.kbt_cast]
theorem and_pred (x : Nat) (hx : 0 < x) : (((x &&& (x - 1)) : Nat) : Int) = (x : Int) - Builtin.bitAnd (x : Int) (-(x : Int)) := by
  unfold Builtin.bitAnd
  rw [show decide ((0 : Int) ≤ (x : Int)) = true from decide_eq_true (by omega), show decide ((0 : Int) ≤ -(x : Int)) = false from decide_eq_false (by omega)]
  show _ = (x : Int) - ((x : Int) - ((((x : Int).toNat &&& (Builtin.bitNot (-(x : Int))).toNat : Nat)) : Int))
  have e : (Builtin.bitNot (-(x : Int))).toNat = x - 1 := by
    unfold Builtin.bitNot
    omega
  rw [e, Int.toNat_natCast]
  omega
theorem and_pred_low (k a : Nat) : (2 ^ k * (2 * a + 1)) &&& (2 ^ k * (2 * a + 1) - 1) = 2 ^ (k + 1) * a := by
  have hp : 0 < 2 ^ k := Nat.two_pow_pos k
  have h1 : 0 < 2 ^ k * (2 * a + 1) := Nat.mul_pos hp (by omega)
  have h := and_pred _ h1
  rw [bit_low] at h
  have e : 2 ^ k * (2 * a + 1) = 2 ^ (k + 1) * a + 2 ^ k := by
    rw [Nat.mul_add, Nat.mul_one, Nat.pow_succ, Nat.mul_assoc]
  have h2 : (((2 ^ k * (2 * a + 1)) &&& (2 ^ k * (2 * a + 1) - 1) : Nat) : Int) = ((2 ^ (k + 1) * a : Nat) : Int) := by
    rw [h]
    omega
  exact Int.ofNat_inj.mp h2
theorem bits_pow (k : Nat) : Builtin.Int.intBits ((2 ^ k : Nat) : Int) = k + 1 := by
  unfold Builtin.Int.intBits
  have hp : 0 < 2 ^ k := Nat.two_pow_pos k
  rw [if_neg (fun z => absurd (beq_iff_eq.mp z) (by omega))]
  rw [Int.natAbs_natCast, Nat.log2_two_pow]
/-- the members below n, ascending -/
def mem (n b : Nat) : List Nat := (List.range n).filter fun x => b.testBit x
theorem mem_more {b i j : Nat} (h : i ≤ j) (hz : ∀ k, i ≤ k → k < j → b.testBit k = false) : mem j b = mem i b := by
  unfold mem
  obtain ⟨d, rfl⟩ : ∃ d, j = i + d := ⟨j - i, by omega⟩
  induction d with
  | zero => rfl
  | succ d ih =>
    rw [← Nat.add_assoc, List.range_succ, List.filter_append, ih (by omega) (fun k h1 h2 => hz k h1 (by omega))]
    rw [List.filter_cons, if_neg (by rw [hz (i + d) (by omega) (by omega)]; decide)]
    simp
theorem mem_step {b k : Nat} (h : b.testBit k = true) : mem (k + 1) b = mem k b ++ [k] := by
  unfold mem
  rw [List.range_succ, List.filter_append, List.filter_cons, if_pos h]
  simp
theorem mem_big {b n m : Nat} (hn : b < 2 ^ n) (hm : b < 2 ^ m) : mem n b = mem m b := by
  by_cases h : n ≤ m
  · exact (mem_more h fun k h1 _ => Nat.testBit_lt_two_pow (Nat.lt_of_lt_of_le hn (Nat.pow_le_pow_right (by decide) h1))).symm
  · exact mem_more (by omega) fun k h1 _ => Nat.testBit_lt_two_pow (Nat.lt_of_lt_of_le hm (Nat.pow_le_pow_right (by decide) h1))
theorem mem_lt {n b x : Nat} (h : x ∈ mem n b) : x < n ∧ b.testBit x = true := by
  unfold mem at h
  rw [List.mem_filter, List.mem_range] at h
  exact h
/-- the rest b / 2^j not empty: its least member and what is left -/
theorem next_bit {b j : Nat} (h : 0 < b / 2 ^ j) : ∃ k a, j ≤ k ∧ 2 ^ j * (b / 2 ^ j) = 2 ^ k * (2 * a + 1) ∧ mem (k + 1) b = mem j b ++ [k] ∧ b / 2 ^ (k + 1) = a := by
  obtain ⟨i, a, e⟩ := odd_part _ h
  have hb : b / 2 ^ (j + i) = 2 * a + 1 := by
    rw [Nat.pow_add, ← Nat.div_div_eq_div_mul, e, Nat.mul_div_cancel_left _ (Nat.two_pow_pos i)]
  have ht : b.testBit (j + i) = true := by
    rw [Nat.testBit_eq_decide_div_mod_eq, hb]
    apply decide_eq_true
    omega
  refine ⟨j + i, a, by omega, ?_, ?_, ?_⟩
  · rw [e, Nat.pow_add, Nat.mul_assoc]
  · rw [mem_step ht, mem_more (i := j) (j := j + i) (by omega) fun k h1 h2 => ?_]
    obtain ⟨l, rfl⟩ : ∃ l, k = j + l := ⟨k - j, by omega⟩
    have hl : l < i := by omega
    rw [Nat.testBit_eq_decide_div_mod_eq, Nat.pow_add, ← Nat.div_div_eq_div_mul, e]
    obtain ⟨d, rfl⟩ : ∃ d, i = l + (d + 1) := ⟨i - l - 1, by omega⟩
    rw [Nat.pow_add, Nat.mul_assoc, Nat.mul_div_cancel_left _ (Nat.two_pow_pos l), Nat.pow_succ]
    apply decide_eq_false
    rw [show 2 ^ d * 2 * (2 * a + 1) = 2 * (2 ^ d * (2 * a + 1)) by rw [Nat.mul_comm (2 ^ d) 2, Nat.mul_assoc]]
    omega
  · rw [Nat.pow_succ, ← Nat.div_div_eq_div_mul, hb]
    omega
/-- the number of the members -/
def bitsOf : Nat → (Nat → Bool) → Nat
  | 0, _ => 0
  | n + 1, p => bitsOf n p + if p n then 2 ^ n else 0
theorem bitsOf_lt : ∀ (n : Nat) (p : Nat → Bool), bitsOf n p < 2 ^ n
  | 0, _ => by
    show 0 < 1
    omega
  | n + 1, p => by
    have := bitsOf_lt n p
    unfold bitsOf
    rw [Nat.pow_succ]
    split <;> omega
theorem bitsOf_test : ∀ (n : Nat) (p : Nat → Bool) (y : Nat), (bitsOf n p).testBit y = (decide (y < n) && p y)
  | 0, _, y => by
    unfold bitsOf
    rw [Nat.zero_testBit]
    simp
  | n + 1, p, y => by
    unfold bitsOf
    have hl := bitsOf_lt n p
    have ih := bitsOf_test n p
    split
    · rename_i hp
      have e : bitsOf n p + 2 ^ n = 2 ^ n * 1 ||| bitsOf n p := by
        rw [← Nat.two_pow_add_eq_or_of_lt hl]
        omega
      rw [e, Nat.testBit_or, ih, Nat.mul_one, Nat.testBit_two_pow]
      by_cases hy : y = n
      · subst hy
        simp [hp]
      · by_cases h2 : y < n
        · simp [h2, show y < n + 1 by omega, show ¬ n = y by omega]
        · simp [h2, show ¬ y < n + 1 by omega, show ¬ n = y by omega]
    · rename_i hp
      rw [Nat.add_zero, ih]
      by_cases hy : y = n
      · subst hy
        simp [hp]
      · by_cases h2 : y < n
        · simp [h2, show y < n + 1 by omega]
        · simp [h2, show ¬ y < n + 1 by omega]
theorem bits_ext {n a b : Nat} (ha : a < 2 ^ n) (hb : b < 2 ^ n) (h : ∀ y, y < n → a.testBit y = b.testBit y) : a = b := by
  apply Nat.eq_of_testBit_eq
  intro y
  by_cases hy : y < n
  · exact h y hy
  · have hp : 2 ^ n ≤ 2 ^ y := Nat.pow_le_pow_right (by decide) (by omega)
    rw [Nat.testBit_lt_two_pow (Nat.lt_of_lt_of_le ha hp), Nat.testBit_lt_two_pow (Nat.lt_of_lt_of_le hb hp)]
theorem bitsOf_self {n b : Nat} (h : b < 2 ^ n) : bitsOf n b.testBit = b := bits_ext (bitsOf_lt _ _) h fun y hy => by
  rw [bitsOf_test]
  simp [hy]
theorem bitsOf_congr {n : Nat} {p q : Nat → Bool} (h : ∀ y, y < n → p y = q y) : bitsOf n p = bitsOf n q := bits_ext (bitsOf_lt _ _) (bitsOf_lt _ _) fun y hy => by
  rw [bitsOf_test, bitsOf_test, h y hy]
/-! ### the closure -/
abbrev Rel := Nat → Nat → Bool
def stepR (R : Rel) (m : Nat) : Rel := fun x z => R x z || (R x m && R m z)
def initR (ps : List (Nat × Nat)) : Rel := fun x y => ps.contains (x, y)
def clos (n : Nat) (ps : List (Nat × Nat)) : Rel := (List.range n).foldl stepR (initR ps)
/-- something that grows along each pair grows along the closure -/
def Up (pos : Nat → Nat) (R : Rel) : Prop := ∀ x y, R x y = true → pos x < pos y
theorem up_step {pos : Nat → Nat} {R : Rel} (h : Up pos R) (m : Nat) : Up pos (stepR R m) := fun x y e => by
  unfold stepR at e
  rw [Bool.or_eq_true, Bool.and_eq_true] at e
  rcases e with e | ⟨e1, e2⟩
  · exact h _ _ e
  · have := h _ _ e1
    have := h _ _ e2
    omega
theorem up_fold {pos : Nat → Nat} : ∀ (l : List Nat) {R : Rel}, Up pos R → Up pos (l.foldl stepR R)
  | [], _, h => h
  | m :: l, _, h => up_fold l (up_step h m)
theorem up_clos {pos : Nat → Nat} {n : Nat} {ps : List (Nat × Nat)} (h : ∀ p ∈ ps, pos p.1 < pos p.2) : Up pos (clos n ps) := up_fold _ fun x y e => by
  unfold initR at e
  have := List.contains_iff_mem.mp e
  exact h _ this
theorem up_irr {pos : Nat → Nat} {R : Rel} (h : Up pos R) (x : Nat) : R x x = false := by
  cases e : R x x with
  | false => rfl
  | true => exact absurd (h x x e) (Nat.lt_irrefl _)
/-- within n -/
def In (n : Nat) (R : Rel) : Prop := ∀ x y, R x y = true → x < n ∧ y < n
theorem in_step {n : Nat} {R : Rel} (h : In n R) (m : Nat) : In n (stepR R m) := fun x y e => by
  unfold stepR at e
  rw [Bool.or_eq_true, Bool.and_eq_true] at e
  rcases e with e | ⟨e1, e2⟩
  · exact h _ _ e
  · exact ⟨(h _ _ e1).1, (h _ _ e2).2⟩
theorem in_fold {n : Nat} : ∀ (l : List Nat) {R : Rel}, In n R → In n (l.foldl stepR R)
  | [], _, h => h
  | m :: l, _, h => in_fold l (in_step h m)
theorem in_clos {n : Nat} {ps : List (Nat × Nat)} (h : ∀ p ∈ ps, p.1 < n ∧ p.2 < n) : In n (clos n ps) := in_fold _ fun x y e => by
  unfold initR at e
  exact h _ (List.contains_iff_mem.mp e)
end Fo

namespace Fo
open PySem PySem.Spec PyProof.Rows L2
open Evl (ixN_nat)
variable [Nm]
/-! ### a walk over a list or a tuple -/
def iSeq (K : PySem.W.Frag) (tl : TE) : TI := fun σ H R => tl σ H fun x H1 => (∃ a, x = .ref a ∧ (∃ xs, SqL K H1 a xs) ∧ R (Itl K a) H1) ∨ ∃ a, x = .ref a ∧ (∃ xs, SqT K H1 a xs) ∧ R (Itt K a) H1
theorem pi_seq {X : Cx} {tg l : Expr} {tl : TE} (hl : PE X l tl) : PI X tg l (iSeq X.K tl) := by
  refine ⟨fun pins s σ H R I h => ?_⟩
  refine thn (hl.run pins s σ H _ I h) fun v s1 ⟨x, H1, I1, r1, q1⟩ => ?_
  rcases q1 with ⟨a, e, ⟨xs, hq⟩, q⟩ | ⟨a, e, ⟨xs, hq⟩, q⟩
  · subst e
    cases r1
    obtain ⟨its, rv, p, hz⟩ := I1.list hq
    refine wpAny_pyIter_list p.isList ?_
    refine ⟨s1.heap.objs.size, [s1.heap.objs.size], _, _, H1, rfl, I1.kept (t' := s1.toks) fun b o e => Heap.get?_push_of_some _ e, turn_list a _, ⟨_, Heap.get?_push_size _ rfl, rfl, rfl⟩, fun b hb => ?_, q⟩
    have e : b = s1.heap.objs.size := by simpa using hb
    subst e
    exact I1.fpOk (Nat.le_refl _) (I1.hok.fresh (Nat.le_refl _))
  · subst e
    cases r1
    obtain ⟨its, rv, p, hz⟩ := I1.tuple hq
    refine wpAny_pyIter_tuple (show s1.heap.IsTuple a its.toArray from p) ?_
    refine ⟨s1.heap.objs.size, [s1.heap.objs.size], _, _, H1, rfl, I1.kept (t' := s1.toks) fun b o e => Heap.get?_push_of_some _ e, turn_tuple a _, ⟨_, Heap.get?_push_size _ rfl, rfl, rfl⟩, fun b hb => ?_, q⟩
    have e : b = s1.heap.objs.size := by simpa using hb
    subst e
    exact I1.fpOk (Nat.le_refl _) (I1.hok.fresh (Nat.le_refl _))
/-- a range object that stands, walked -/
def iRngV (te : TE) : TI := fun σ H R => te σ H fun x H1 => ∃ a lo hi, x = .ref a ∧ H1 a = some (.rng lo hi) ∧ -(2 ^ 62) ≤ lo ∧ lo < 2 ^ 62 ∧ -(2 ^ 62) ≤ hi ∧ hi < 2 ^ 62 ∧ R (Itr lo (hi - lo).toNat) H1
theorem pi_rngV {X : Cx} {tg e : Expr} {te : TE} (he : PE X e te) : PI X tg e (iRngV te) := by
  refine ⟨fun pins s σ H R I h => ?_⟩
  refine thn (he.run pins s σ H _ I h) fun v s1 ⟨x, H1, I1, r1, a, lo, hi, ex, ha, h1, h2, h3, h4, q⟩ => ?_
  subst ex
  cases r1
  obtain ⟨t, u, w', hr⟩ := (show ObjOk X.prog X.w H1 s1.heap a (.rng lo hi) from I1.hok a _ ha)
  have hR : IsRange s1.heap a lo hi 1 t u w' := hr
  refine wpAny_pyIter_range hR (small_one h1 h2 h3 h4) ?_
  refine ⟨s1.heap.objs.size, [s1.heap.objs.size], _, _, H1, rfl, I1.kept (t' := _) fun b o e => Heap.get?_push_of_some _ e, turn_range _ lo (hi - lo).toNat, ?_, fun b hb => ?_, q⟩
  · have e1 : lo + ((0 : Nat) : Int) * 1 = lo := by simp
    have e2 : (((hi - lo).toNat : Nat) : Int) - ((0 : Nat) : Int) = Builtin.Range.rangeSize lo hi 1 := by rw [rangeSize_one]; split <;> omega
    show IsRangeIter _ _ (lo + ((0 : Nat) : Int) * 1) ((((hi - lo).toNat : Nat) : Int) - ((0 : Nat) : Int)) 1
    rw [e1, e2]
    exact Heap.get?_push_size _ rfl
  · have e : b = s1.heap.objs.size := by simpa using hb
    subst e
    exact I1.fpOk (Nat.le_refl _) (I1.hok.fresh (Nat.le_refl _))
/-- range(n) as a value -/
def rRange1 : List V → Hp → VK → Prop := fun vs H Q => ∃ j, vs = [V.int j] ∧ ∀ p, H p = none → Q (.ref p) (upd H p (.rng 0 j))
theorem cr_range1 {X : Cx} : CallR X (.type "range") rRange1 := by
  intro pins s σ H vs us Q I r h
  obtain ⟨j, rfl, q⟩ := h
  obtain ⟨u, rfl, rx⟩ := vals1 r
  obtain ⟨t, rfl⟩ := rx
  refine call_range_1 ⟨.ref s.heap.objs.size, upd H s.heap.objs.size (.rng 0 j), I.laid (fun b o e => Heap.get?_push_of_some _ e) (Nat.le_refl _) ⟨_, _, _, Heap.get?_push_size _ rfl⟩, rfl, q _ (I.hok.fresh (Nat.le_refl _))⟩
section
variable {K : PySem.W.Frag} {B H : Hp} {Γ : List (Option Da)} {te ta tb tc tl : TE} {tt tt1 t u : TT} {d d1 d2 d3 : Da}
theorem i_seqL {ds : List Da} (h : EvG K Γ tl (.lst ds)) : EvI K Γ (iSeq K tl) ds := fun σ B H hs e R k =>
  h σ B H hs e _ fun x B1 H1 n1 rx => by
    obtain ⟨a, xs, rfl, h1, h2⟩ := id rx
    refine .inl ⟨a, rfl, ⟨xs, sq1 n1.ok h1⟩, k _ B1 H1 n1 ⟨fun i H hi e2 => ?_, fun H e2 => ⟨xs, sq1 e2 h1, by rw [h2.length]; exact Nat.le_refl _⟩, fun i B2 H x H2 d hd e2 e3 y => ?_⟩⟩
    · have hi2 : i < xs.length := by rw [h2.length]; exact hi
      exact ⟨xs, xs[i], sq1 e2 h1, by simp [hi2]⟩
    · obtain ⟨rfl, y⟩ := y
      obtain ⟨z, h3, h4⟩ := h2.get hd
      have hx : xs[i]? = some x := y xs (sq1 (e2.trans e3) h1)
      rw [h3] at hx
      cases hx
      exact ⟨B2, .refl e3, Rp.mono e2 _ _ h4⟩
theorem i_seqT {ds : List Da} (h : EvG K Γ tl (.tup ds)) : EvI K Γ (iSeq K tl) ds := fun σ B H hs e R k =>
  h σ B H hs e _ fun x B1 H1 n1 rx => by
    obtain ⟨a, xs, rfl, h1, h2⟩ := id rx
    refine .inr ⟨a, rfl, ⟨xs, ex_t n1.ok h1⟩, k _ B1 H1 n1 ⟨fun i H hi e2 => ?_, fun H e2 => ⟨xs, ex_t e2 h1, by rw [h2.length]; exact Nat.le_refl _⟩, fun i B2 H x H2 d hd e2 e3 y => ?_⟩⟩
    · have hi2 : i < xs.length := by rw [h2.length]; exact hi
      exact ⟨xs, xs[i], ex_t e2 h1, by simp [hi2]⟩
    · obtain ⟨rfl, y⟩ := y
      obtain ⟨z, h3, h4⟩ := h2.get hd
      have hx : xs[i]? = some x := y xs (ex_t (e2.trans e3) h1)
      rw [h3] at hx
      cases hx
      exact ⟨B2, .refl e3, Rp.mono e2 _ _ h4⟩
theorem i_rngV {lo hi : Int} (h : EvG K Γ tl (.rng lo hi)) (h1 : -1000000 ≤ lo) (h2 : lo ≤ 1000000) (h3 : -1000000 ≤ hi) (h4 : hi ≤ 1000000) : EvI K Γ (iRngV tl) (rng lo (hi - lo).toNat) := fun σ B H hs e R k =>
  h σ B H hs e _ fun x B1 H1 n1 rx => by
    obtain ⟨a, rfl, ha⟩ := rx
    exact ⟨a, lo, hi, rfl, n1.ok _ _ ha, by omega, by omega, by omega, by omega, k _ B1 H1 n1 walk_rng⟩
theorem c_range1 {j : Int} : RGC K rRange1 [.int j] (.rng 0 j) := fun B H vs e r Q k => by
  obtain ⟨x, rfl, rx⟩ := rpa1 r
  obtain rfl : x = .int j := rx
  exact ⟨j, rfl, fun p hp => k _ _ _ (.new e hp) ⟨p, rfl, upd_same⟩⟩
/-! ### comprehensions of two clauses -/
def Ci (K : PySem.W.Frag) (B1 H1 : Hp) (D : Addr) (out : List Da) (H : Hp) : Prop := ∃ B acc, Nx B1 H1 B H ∧ B D = none ∧ H D = some (.lst acc) ∧ RpA K B out acc
def Tgt2 (K : PySem.W.Frag) (Γ : List (Option Da)) (vs : List Nat) (g : TG) (tt : TT) (wi1 : TI) (vs1 : List Nat) (g1 : TG) (tt1 : TT) (te : TE) (ds : List Da) (f : Da → Bool) (ds1 : Da → List Da) (f1 : Da → Da → Bool) (v : Da → Da → Da) : Prop :=
  ∀ d ∈ ds, ∀ x σ B H, Sl K B Γ σ → Ex B H → Rp K B d x → ∀ Q : L2.St → Hp → Prop, (∀ σ2, wipe σ2 vs = wipe σ vs → ∀ Γ2, Sl K B Γ2 σ2 → EvB K Γ2 tt (f d) → (f d = true → EvI K Γ2 wi1 (ds1 d) ∧ Tgt K Γ2 vs1 g1 tt1 te (ds1 d) (f1 d) (v d)) → Q σ2 H) → g x (wipe σ vs) H Q
def out2 (ds : List Da) (f : Da → Bool) (ds1 : Da → List Da) (f1 : Da → Da → Bool) (v : Da → Da → Da) : List Da := (ds.filter f).flatMap fun d => ((ds1 d).filter (f1 d)).map (v d)
theorem out2_snoc {ds : List Da} {f : Da → Bool} {ds1 : Da → List Da} {f1 : Da → Da → Bool} {v : Da → Da → Da} (d : Da) : out2 (ds ++ [d]) f ds1 f1 v = out2 ds f ds1 f1 v ++ if f d then ((ds1 d).filter (f1 d)).map (v d) else [] := by
  unfold out2
  rw [List.filter_append, List.flatMap_append]
  congr 1
  rw [List.filter_cons]
  split
  · simp
  · simp
theorem out2_pre {ds : List Da} {f : Da → Bool} {ds1 : Da → List Da} {f1 : Da → Da → Bool} {v : Da → Da → Da} (i : Nat) : (out2 (ds.take i) f ds1 f1 v).length ≤ (out2 ds f ds1 f1 v).length := by
  have e : out2 ds f ds1 f1 v = out2 (ds.take i) f ds1 f1 v ++ out2 (ds.drop i) f ds1 f1 v := by
    unfold out2
    rw [← List.flatMap_append, ← List.filter_append, List.take_append_drop]
  rw [e, List.length_append]
  omega
theorem take_snoc {α : Type} {l : List α} {i : Nat} (h : i < l.length) : l.take (i + 1) = l.take i ++ [l[i]] := by
  rw [List.take_add_one]
  simp [h]
theorem g_lc2 {wi wi1 : TI} {g g1 : TG} {vs vs1 : List Nat} {ds : List Da} (f : Da → Bool) (ds1 : Da → List Da) (f1 : Da → Da → Bool) (v : Da → Da → Da) (hi : EvI K Γ wi ds) (hl : (out2 ds f ds1 f1 v).length ≤ 500000)
    (hb : Tgt2 K Γ vs g tt wi1 vs1 g1 tt1 te ds f ds1 f1 v) : EvG K Γ (tLc2 wi g tt wi1 g1 tt1 te vs vs1) (.lst (out2 ds f ds1 f1 v)) := fun σ B H hs e Q k =>
  hi σ B H hs e _ fun J B1 H1 n1 w Dl hD => by
    refine ⟨fun i m H' => m = ds.length - i ∧ i ≤ ds.length ∧ Ci K B1 H1 Dl (out2 (ds.take i) f ds1 f1 v) H',
      ⟨ds.length, by simp, Nat.zero_le _, B1, [], .out n1.ok hD, fresh_back n1.ok hD, upd_same, rfl⟩, ?_⟩
    rintro i m H' ⟨rfl, hi, B', acc, n2, hB, hH, ra⟩
    by_cases hlt : i < ds.length
    · refine .inr ⟨w.goes i H' hlt (n2.b.trans n2.ok), Ci K B1 H1 Dl (out2 (ds.take (i + 1)) f ds1 f1 v), fun H'' z => ⟨ds.length - (i + 1), by omega, rfl, hlt, z⟩, fun x H'' y => ?_⟩
      obtain ⟨B3, n3, rx⟩ := w.yld i B' H' x H'' ds[i] (by simp [hlt]) n2.b n2.ok y
      have m3 := n3.apart hB hH
      have hle := out2_pre (ds := ds) (f := f) (ds1 := ds1) (f1 := f1) (v := v) (i + 1)
      rw [take_snoc hlt, out2_snoc] at hle ⊢
      refine hb ds[i] (List.getElem_mem _) x σ B3 H'' (hs.mono ((n1.b.trans n2.b).trans n3.b)) n3.ok rx _ fun σ2 hw Γ2 hs2 ht he => ⟨hw, ?_⟩
      refine ht σ2 B3 H'' hs2 n3.ok _ fun B4 H4 n4 => ?_
      have m4 := n4.apart m3.1 m3.2
      have n24 := (n2.trans n3).trans n4
      have ra4 : RpA K B4 (out2 (ds.take i) f ds1 f1 v) acc := RpA.mono (n3.b.trans n4.b) _ _ ra
      cases hf : f ds[i] with
      | false =>
        rw [if_neg Bool.false_ne_true, if_neg Bool.false_ne_true, List.append_nil]
        exact ⟨B4, acc, n24, m4.1, m4.2, ra4⟩
      | true =>
        rw [if_pos rfl]
        rw [hf, if_pos rfl] at hle
        rw [if_pos rfl]
        obtain ⟨hi1, hb1⟩ := he hf
        -- the inner walk
        refine hi1 σ2 B4 H4 (hs2.mono n4.b) n4.ok _ fun J1 B5 H5 n5 w1 => ?_
        have m5 := n5.apart m4.1 m4.2
        refine ⟨fun j m H6 => m = (ds1 ds[i]).length - j ∧ j ≤ (ds1 ds[i]).length ∧ ∃ B6 acc6, Nx B1 H1 B6 H6 ∧ Ex B5 B6 ∧ B6 Dl = none ∧ H6 Dl = some (.lst acc6) ∧ RpA K B6 (out2 (ds.take i) f ds1 f1 v ++ (((ds1 ds[i]).take j).filter (f1 ds[i])).map (v ds[i])) acc6,
          ⟨(ds1 ds[i]).length, by simp, Nat.zero_le _, B5, acc, n24.trans n5, .refl _, m5.1, m5.2, by
            show RpA K B5 (_ ++ []) acc
            rw [List.append_nil]
            exact RpA.mono n5.b _ _ ra4⟩, ?_⟩
        rintro j m1 H6 ⟨rfl, hj, B6, acc6, n6, e6, hB6, hH6, ra6⟩
        by_cases hlt1 : j < (ds1 ds[i]).length
        · refine .inr ⟨w1.goes j H6 hlt1 (e6.trans n6.ok), fun H7 => ∃ B7 acc7, Nx B1 H1 B7 H7 ∧ Ex B5 B7 ∧ B7 Dl = none ∧ H7 Dl = some (.lst acc7) ∧ RpA K B7 (out2 (ds.take i) f ds1 f1 v ++ (((ds1 ds[i]).take (j + 1)).filter (f1 ds[i])).map (v ds[i])) acc7,
            fun H7 z => ⟨(ds1 ds[i]).length - (j + 1), by omega, rfl, hlt1, z⟩, fun x1 H7 y1 => ?_⟩
          obtain ⟨B7, n7, rx1⟩ := w1.yld j B6 H6 x1 H7 (ds1 ds[i])[j] (by simp [hlt1]) e6 n6.ok y1
          have m7 := n7.apart hB6 hH6
          refine hb1 (ds1 ds[i])[j] (List.getElem_mem _) x1 σ2 B7 H7 (hs2.mono (((n4.b.trans n5.b).trans e6).trans n7.b)) n7.ok rx1 _ fun σ3 hw3 Γ3 hs3 ht3 he3 => ⟨hw3, ?_⟩
          refine ht3 σ3 B7 H7 hs3 n7.ok _ fun B8 H8 n8 => ?_
          have m8 := n8.apart m7.1 m7.2
          have n68 := (n6.trans n7).trans n8
          have ra8 := RpA.mono (n7.b.trans n8.b) _ _ ra6
          rw [take_snoc hlt1, List.filter_append, List.map_append, List.filter_cons]
          cases hf1 : f1 ds[i] (ds1 ds[i])[j] with
          | false =>
            rw [if_neg Bool.false_ne_true, if_neg Bool.false_ne_true]
            refine ⟨B8, acc6, n68, (e6.trans n7.b).trans n8.b, m8.1, m8.2, ?_⟩
            show RpA K B8 (_ ++ (_ ++ [])) acc6
            rw [List.append_nil]
            exact ra8
          | true =>
            rw [if_pos rfl, if_pos rfl]
            refine he3 hf1 σ3 B8 H8 (hs3.mono n8.b) n8.ok _ fun z B9 H9 n9 rz => ?_
            have m9 := n9.apart m8.1 m8.2
            refine ⟨acc6, m9.2, size_lt ?_, B9, acc6 ++ [z], (n68.trans n9).mut hD m9.1 (ml_of m9.2), ((e6.trans n7.b).trans n8.b).trans n9.b, m9.1, upd_same, ?_⟩
            · rw [ra6.length, List.length_append, List.length_map]
              have h1 : ((((ds1 ds[i]).take j).filter (f1 ds[i]))).length ≤ ((ds1 ds[i]).filter (f1 ds[i])).length := by
                have e : (ds1 ds[i]).filter (f1 ds[i]) = ((ds1 ds[i]).take j).filter (f1 ds[i]) ++ ((ds1 ds[i]).drop j).filter (f1 ds[i]) := by
                  rw [← List.filter_append, List.take_append_drop]
                rw [e, List.length_append]
                omega
              rw [List.length_append, List.length_map] at hle
              omega
            · rw [List.map_cons, List.filter_nil, List.map_nil, ← List.append_assoc]
              exact (RpA.mono n9.b _ _ ra8).append (.one rz)
        · have ej : j = (ds1 ds[i]).length := by omega
          subst ej
          rw [List.take_length] at ra6
          exact .inl ⟨w1.stops H6 (e6.trans n6.ok), B6, acc6, n6, hB6, hH6, ra6⟩
    · have ei : i = ds.length := by omega
      subst ei
      rw [List.take_length] at ra
      refine .inl ⟨w.stops H' (n2.b.trans n2.ok), ?_⟩
      exact k _ _ _ (n1.trans (n2.frz hD hB hH)) ⟨Dl, acc, rfl, upd_same, RpA.mono (.new hB) _ _ ra⟩
theorem wipe_get {σ : L2.St} {i : Nat} : ∀ {vs : List Nat}, (wipe σ vs)[i]? = if i ∈ vs ∧ i < σ.length then some none else σ[i]?
  | [] => by
    rw [if_neg (by simp)]
    rfl
  | v :: vs => by
    show ((wipe σ vs).set v none)[i]? = _
    rw [List.getElem?_set, wipe_length, wipe_get]
    by_cases h : v = i
    · subst h
      by_cases h2 : v < σ.length
      · simp [h2]
      · rw [if_pos rfl, if_neg h2, if_neg (by simp [h2]), List.getElem?_eq_none (by omega)]
    · rw [if_neg h]
      have e : (i ∈ v :: vs) ↔ (i ∈ vs) := by
        simp only [List.mem_cons]
        exact ⟨fun q => q.elim (fun z => absurd z.symm h) id, .inr⟩
      simp only [e]
theorem wipe_back {σ : L2.St} {j : Nat} {x : V} {vs : List Nat} (h : j ∈ vs) : wipe ((wipe σ vs).set j (some x)) vs = wipe σ vs := by
  apply List.ext_getElem?
  intro i
  rw [wipe_get, wipe_get, List.length_set, wipe_length]
  by_cases hi : i ∈ vs ∧ i < σ.length
  · rw [if_pos hi, if_pos hi]
  · rw [if_neg hi, if_neg hi, List.getElem?_set]
    by_cases e : j = i
    · subst e
      have h2 : ¬ j < σ.length := fun z => hi ⟨h, z⟩
      rw [if_pos rfl, wipe_length, if_neg h2, List.getElem?_eq_none (by omega)]
    · rw [if_neg e, wipe_get, if_neg hi]
theorem wipe_back2 {σ : L2.St} {i j : Nat} {x y : V} {vs : List Nat} (h : i ∈ vs) (h2 : j ∈ vs) : wipe (((wipe σ vs).set i (some x)).set j (some y)) vs = wipe σ vs := by
  have key : ∀ (τ : L2.St) (k : Nat) (z : V), k ∈ vs → wipe (τ.set k (some z)) vs = wipe τ vs := fun τ k z hk => by
    apply List.ext_getElem?
    intro n
    rw [wipe_get, wipe_get, List.length_set]
    by_cases hi : n ∈ vs ∧ n < τ.length
    · rw [if_pos hi, if_pos hi]
    · rw [if_neg hi, if_neg hi, List.getElem?_set]
      by_cases e : k = n
      · subst e
        have h3 : ¬ k < τ.length := fun z => hi ⟨hk, z⟩
        rw [if_pos rfl, if_neg h3, List.getElem?_eq_none (by omega)]
      · rw [if_neg e]
  rw [key _ j y h2]
  exact wipe_back h
theorem filter_tt {α : Type} (l : List α) : (l.filter fun _ => true) = l := List.filter_eq_self.mpr fun _ _ => rfl
/-- both targets names -/
theorem t2_name {i j : Nat} {vs vs1 : List Nat} {ds : List Da} {f : Da → Bool} {ds1 : Da → List Da} {f1 : Da → Da → Bool} {v : Da → Da → Da} {wi1 : TI} (hw : ∀ (σ : L2.St) (x : V), wipe ((wipe σ vs).set i (some x)) vs = wipe σ vs)
    (hw1 : ∀ (σ : L2.St) (x : V), wipe ((wipe σ vs1).set j (some x)) vs1 = wipe σ vs1)
    (h : ∀ d ∈ ds, EvB K ((wipeG Γ vs).set i (some d)) tt (f d) ∧ (f d = true → EvI K ((wipeG Γ vs).set i (some d)) wi1 (ds1 d) ∧
      ∀ d1 ∈ ds1 d, EvB K ((wipeG ((wipeG Γ vs).set i (some d)) vs1).set j (some d1)) tt1 (f1 d d1) ∧ (f1 d d1 = true → EvG K ((wipeG ((wipeG Γ vs).set i (some d)) vs1).set j (some d1)) te (v d d1)))) :
    Tgt2 K Γ vs (gName i) tt wi1 vs1 (gName j) tt1 te ds f ds1 f1 v := fun d hd x σ B H hs e r Q k =>
  k _ (hw σ x) _ ((hs.wipe vs).set i r) (h d hd).1 fun hf => ⟨((h d hd).2 hf).1, t_name hw1 ((h d hd).2 hf).2⟩

/-! ### what an expression gives where it is a scalar: the data's heap may be another one there -/
theorem EvG.sc {x : V} (h : EvG K Γ te d) (hx : sca d = some x) {σ : L2.St} (hs : Sl K B Γ σ) (e : Ex B H) {Q : VK} (k : ∀ H2, Ex H H2 → Q x H2) : te σ H Q :=
  h σ B H hs e Q fun v B2 H2 n r => by
    obtain rfl := sca_rp hx r
    exact k H2 n.h
theorem EvB.sc {b : Bool} (h : EvB K Γ tt b) {σ : L2.St} (hs : Sl K B Γ σ) (e : Ex B H) {Q : Bool → Hp → Prop} (k : ∀ H2, Ex H H2 → Q b H2) : tt σ H Q :=
  h σ B H hs e Q fun B2 H2 n => k H2 n.h
theorem ex_frz {l : Addr} {o : HO} (e : Ex B H) (h : H l = some o) (hc : notC o = true := by rfl) : Ex (upd B l o) H := ex_frz0 e h hc
/-! ### constructors -/
def PuI (K : PySem.W.Frag) (C : Addr) (f : List Da → List Str → List Da → Prop) : Sp := fun vs H Q _ => ∃ B ds ns fs x dx ws, vs = .ref x :: ws ∧ Ex B H ∧ B x = none ∧ H x = some (.ins C dx []) ∧ RpA K B ds ws ∧ f ds ns fs ∧
  ∀ B2 H2 ys, Ex B B2 → Ex B2 H2 → B2 x = none → Ex (delH H x) H2 → (∀ a, B a = none → NC H a → B2 a = none) → H2 x = some (.ins C dx (ns.zip ys)) → RpA K B2 fs ys → Q .non H2
theorem g_make {C : Addr} {f : List Da → List Str → List Da → Prop} {tr : TA} {ds fs : List Da} {ns : List Str} {E : XK} (h : EvS K Γ tr ds) (hf : f ds ns fs) : EvG K Γ (tMake C (PuI K C f) [] E tr) (.ins C ns fs) := fun σ B H hs e Q k =>
  h σ B H hs e _ fun ws B1 H1 n1 rs x dx hx hdx hne => by
    have hHx : ∀ a o, a ≠ x → a ≠ dx → H1 a = some o → upd (upd H1 dx (.own x)) x (.ins C dx []) a = some o := fun a o h1 h2 h3 => by
      rw [upd_ne h1, upd_ne h2]
      exact h3
    have e0 : Ex H1 (upd (upd H1 dx (.own x)) x (.ins C dx [])) := Ex.of fun a o q => hHx a o (ne_of_none q hx) (ne_of_none q hdx) q
    have e1 := n1.ok.trans e0
    refine ⟨B1, ds, ns, fs, x, dx, ws, by rw [List.append_nil], e1, fresh_back n1.ok hx, upd_same, rs, hf, fun B2 H2 ys q1 q2 q3 q4 q5 q6 q7 => ⟨rfl, ?_⟩⟩
    have n2 : Nx B1 H1 B2 H2 := ⟨q2, q1, (del_of fun a o h => ⟨ne_of_none h hx, hHx a o (ne_of_none h hx) (ne_of_none h hdx) h⟩).trans q4, fun a h1 h2 => q5 a h1 (h2.ex e0)⟩
    exact (k.mono n1) _ _ _ (n2.frz hx q3 q6) ⟨x, dx, ys, rfl, upd_same, RpA.mono (.new q3) _ _ q7⟩
end
end Fo

namespace Fo
/-! ### rows by a function -/
def upF {α : Type} (f : Nat → α) (i : Nat) (v : α) : Nat → α := fun j => if j = i then v else f j
theorem set_tab {α β : Type} {n i : Nat} (g : α → β) (f : Nat → α) (v : α) (hi : i < n) : ((List.range n).map fun x => g (f x)).set i (g v) = (List.range n).map fun x => g (upF f i v x) := by
  apply List.ext_getElem?
  intro j
  rw [List.getElem?_set]
  by_cases hj : j < n
  · by_cases e : i = j
    · subst e
      simp [hj, upF]
    · simp [e, hj, upF, show ¬ j = i by omega]
  · by_cases e : i = j
    · omega
    · rw [if_neg e, List.getElem?_eq_none (by simp; omega), List.getElem?_eq_none (by simp; omega)]
theorem get_tab {α : Type} {n i : Nat} (f : Nat → α) (hi : i < n) : ((List.range n).map f)[i]? = some (f i) := by
  simp [hi]
theorem tab_congr {α : Type} {n : Nat} {f g : Nat → α} (h : ∀ i, i < n → f i = g i) : (List.range n).map f = (List.range n).map g := by
  apply List.map_congr_left
  intro a ha
  exact h a (List.mem_range.mp ha)
/-! ### the closure by bits -/
def initF (ps : List (Nat × Nat)) : Nat → Nat := ps.foldl (fun f p => upF f p.1 (f p.1 ||| 2 ^ p.2)) fun _ => 0
def stepF (f : Nat → Nat) (m : Nat) : Nat → Nat := fun x => if (f x).testBit m then f x ||| f m else f x
def closF (n : Nat) (ps : List (Nat × Nat)) : Nat → Nat := (List.range n).foldl stepF (initF ps)
def Rep (f : Nat → Nat) (R : Rel) : Prop := ∀ x z, (f x).testBit z = R x z
theorem rep_step {f : Nat → Nat} {R : Rel} (h : Rep f R) (m : Nat) : Rep (stepF f m) (stepR R m) := fun x z => by
  unfold stepF stepR
  rw [h x m]
  cases e : R x m with
  | true => simp [Nat.testBit_or, h x z, h m z]
  | false => simp [h x z]
theorem rep_fold : ∀ (l : List Nat) {f : Nat → Nat} {R : Rel}, Rep f R → Rep (l.foldl stepF f) (l.foldl stepR R)
  | [], _, _, h => h
  | m :: l, _, _, h => rep_fold l (rep_step h m)
theorem rep_init : ∀ (ps qs : List (Nat × Nat)) (f : Nat → Nat), Rep f (initR qs) → Rep (ps.foldl (fun f p => upF f p.1 (f p.1 ||| 2 ^ p.2)) f) (initR (qs ++ ps))
  | [], qs, f, h => by
    rw [List.append_nil]
    exact h
  | p :: ps, qs, f, h => by
    have := rep_init ps (qs ++ [p]) (upF f p.1 (f p.1 ||| 2 ^ p.2)) fun x z => by
      unfold upF initR
      have hx := h x z
      unfold initR at hx
      by_cases e : x = p.1
      · rw [if_pos e, Nat.testBit_or, ← e, hx, Nat.testBit_two_pow]
        by_cases e2 : p.2 = z
        · have : (x, z) = p := by rw [e, ← e2]
          simp [e2, this]
        · have : ¬ (x, z) = p := fun q => e2 (by rw [← q])
          simp [e2, this]
      · rw [if_neg e, hx]
        have : ¬ (x, z) = p := fun q => e (by rw [← q])
        simp [this]
    rw [List.append_assoc] at this
    exact this
theorem rep_clos (n : Nat) (ps : List (Nat × Nat)) : Rep (closF n ps) (clos n ps) := by
  have h := rep_init ps [] (fun _ => 0) fun x z => by
    rw [Nat.zero_testBit]
    rfl
  exact rep_fold _ h
theorem rep_lt {n : Nat} {f : Nat → Nat} {R : Rel} (h : Rep f R) (hi : In n R) (x : Nat) : f x < 2 ^ n := by
  apply Nat.lt_pow_two_of_testBit
  intro i hi2
  rw [h x i]
  cases e : R x i with
  | false => rfl
  | true =>
    have := (hi x i e).2
    omega
/-- one turn of the inner loop: the points below i are done -/
def midF (f : Nat → Nat) (m i : Nat) : Nat → Nat := fun x => if x < i then stepF f m x else f x
theorem mid_zero (f : Nat → Nat) (m : Nat) : midF f m 0 = f := by
  funext x
  unfold midF
  rw [if_neg (by omega)]
theorem mid_self (f : Nat → Nat) (m i : Nat) : midF f m i m = f m := by
  unfold midF stepF
  split
  · split
    · exact Nat.or_self _
    · rfl
  · rfl
theorem mid_at (f : Nat → Nat) (m i : Nat) : midF f m i i = f i := by
  unfold midF
  rw [if_neg (Nat.lt_irrefl i)]
theorem mid_yes {f : Nat → Nat} {m i : Nat} (h : (f i).testBit m = true) : upF (midF f m i) i (f i ||| f m) = midF f m (i + 1) := by
  funext x
  unfold upF midF
  by_cases e : x = i
  · subst e
    rw [if_pos rfl, if_pos (by omega)]
    unfold stepF
    rw [if_pos h]
  · rw [if_neg e]
    by_cases e2 : x < i
    · rw [if_pos e2, if_pos (by omega)]
    · rw [if_neg e2, if_neg (by omega)]
theorem mid_no {f : Nat → Nat} {m i : Nat} (h : (f i).testBit m = false) : midF f m i = midF f m (i + 1) := by
  funext x
  unfold midF
  by_cases e : x = i
  · subst e
    rw [if_neg (by omega), if_pos (by omega)]
    unfold stepF
    rw [if_neg (by rw [h]; decide)]
  · by_cases e2 : x < i
    · rw [if_pos e2, if_pos (by omega)]
    · rw [if_neg e2, if_neg (by omega)]
theorem mid_end {f : Nat → Nat} {m n : Nat} (x : Nat) (h : x < n) : midF f m n x = stepF f m x := by
  unfold midF
  rw [if_pos h]
theorem closF_step (n i : Nat) (f : Nat → Nat) : (List.range (i + 1)).foldl stepF f = stepF ((List.range i).foldl stepF f) i := by
  rw [List.range_succ, List.foldl_append]
  rfl
end Fo

namespace Fo
open PySem PySem.Spec PyProof.Rows L2
open Evl (ixN_nat)
variable [Nm]
/-! ### a list of lists of truths, changed in its place -/
def lcScope : Expr → Scope
  | .ListComp _ _ sc _ => sc
  | _ => { kind := .function, names := [], isGenerator := false, isCoroutine := false }
def asgV : Stmt → Expr
  | .Assign _ v _ => v
  | .Return (some v) _ => v
  | .Expr v _ => v
  | _ => .Constant .none 0 ⟨0, 0, 0, 0⟩
structure TabAt (H : Hp) (t : Addr) (rs : List Addr) (n : Nat) (R : Rel) : Prop where
  tab : H t = some (.lst (rs.map V.ref))
  len : rs.length = n
  nd : rs.Nodup
  nt : t ∉ rs
  row : ∀ x r, rs[x]? = some r → H r = some (.lst ((List.range n).map fun z => V.bl (R x z)))
def dTab (n : Nat) (R : Rel) : Da := .lst ((List.range n).map fun x => .lst ((List.range n).map fun z => .bl (R x z)))
def frzT (B H : Hp) (t : Addr) (rs : List Addr) : Hp := fun a => if a = t ∨ a ∈ rs then H a else B a
section
variable {K : PySem.W.Frag} {B H : Hp} {t : Addr} {rs : List Addr} {n : Nat} {R R2 : Rel} {Γ : List (Option Da)}
theorem TabAt.congr (h : TabAt H t rs n R) (e : ∀ x z, x < n → z < n → R x z = R2 x z) : TabAt H t rs n R2 :=
  ⟨h.tab, h.len, h.nd, h.nt, fun x r hr => by
    rw [h.row x r hr]
    have hx : x < n := by
      rw [← h.len]
      exact (List.getElem?_eq_some_iff.mp hr).1
    congr 2
    exact tab_congr fun z hz => by rw [e x z hx hz]⟩
theorem TabAt.at {H2 : Hp} (h : TabAt H t rs n R) (e : ∀ a, a = t ∨ a ∈ rs → H2 a = H a) : TabAt H2 t rs n R :=
  ⟨by rw [e t (.inl rfl)]; exact h.tab, h.len, h.nd, h.nt, fun x r hr => by rw [e r (.inr (List.mem_of_getElem? hr))]; exact h.row x r hr⟩
theorem TabAt.there (h : TabAt H t rs n R) {a : Addr} (ha : a = t ∨ a ∈ rs) : ∃ o, H a = some o ∧ notC o = true := by
  rcases ha with rfl | ha
  · exact ⟨_, h.tab, rfl⟩
  · obtain ⟨x, hx⟩ := List.mem_iff_getElem?.mp ha
    exact ⟨_, h.row x a hx, rfl⟩
theorem TabAt.ml (h : TabAt H t rs n R) {a : Addr} (ha : a = t ∨ a ∈ rs) : ML H a := by
  obtain ⟨o, ho, hc⟩ := h.there ha
  exact ml_of ho hc
theorem TabAt.ex {H2 : Hp} (h : TabAt H t rs n R) (e : Ex H H2) : TabAt H2 t rs n R := h.at fun a ha => by
  obtain ⟨o, ho, hc⟩ := h.there ha
  rw [e.g a o ho (notC_T hc), ho]
def updR (R : Rel) (x z : Nat) (b : Bool) : Rel := fun x' z' => if x' = x ∧ z' = z then b else R x' z'
theorem TabAt.set (h : TabAt H t rs n R) {x z : Nat} {r : Addr} {b : Bool} (hr : rs[x]? = some r) (hz : z < n) :
    TabAt (upd H r (.lst (((List.range n).map fun z => V.bl (R x z)).set z (.bl b)))) t rs n (updR R x z b) := by
  have hrm := List.mem_of_getElem? hr
  refine ⟨?_, h.len, h.nd, h.nt, fun x' r' hr' => ?_⟩
  · rw [upd_ne (fun e => h.nt (by rw [e]; exact hrm))]
    exact h.tab
  · by_cases e : r' = r
    · subst e
      have ex : x' = x := nd_ix h.nd hr' hr
      subst ex
      rw [upd_same, set_tab (fun c : Bool => V.bl c) (fun z => R x' z) b hz]
      congr 2
      apply tab_congr
      intro i _
      unfold upF updR
      by_cases e2 : i = z
      · rw [if_pos e2, if_pos ⟨rfl, e2⟩]
      · rw [if_neg e2, if_neg (fun q => e2 q.2)]
    · rw [upd_ne e, h.row x' r' hr']
      have ne : x' ≠ x := fun q => e (by
        subst q
        rw [hr'] at hr
        exact Option.some.inj hr)
      congr 2
      apply tab_congr
      intro i _
      unfold updR
      rw [if_neg (fun q => ne q.1)]
theorem frz_ex (h : TabAt H t rs n R) (e : Ex B H) : Ex (frzT B H t rs) H := ⟨fun a o q hn => by
  unfold frzT at q
  by_cases ha : a = t ∨ a ∈ rs
  · rw [if_pos ha] at q
    exact q
  · rw [if_neg ha] at q
    exact e.g a o q hn, fun a ps q => by
  unfold frzT at q
  by_cases ha : a = t ∨ a ∈ rs
  · rw [if_pos ha] at q
    cases h.ml ha _ q
  · rw [if_neg ha] at q
    exact e.k a ps q, fun P ⟨ps, h1, h2, h3⟩ => e.t P (by
  have key : ∀ a o, frzT B H t rs a = some o → notC o = false → B a = some o := fun a o ha hc => by
    unfold frzT at ha
    by_cases h2 : a = t ∨ a ∈ rs
    · rw [if_pos h2] at ha
      rw [h.ml h2 o ha] at hc
      cases hc
    · rwa [if_neg h2] at ha
  exact ⟨ps, key _ _ h1 rfl, h2, fun pos cv hc => by
    obtain ⟨c, e1, e2⟩ := h3 pos cv hc
    exact ⟨c, e1, key _ _ e2 rfl⟩⟩)⟩
theorem frz_sub (hB : ∀ a, a = t ∨ a ∈ rs → B a = none) : Ex B (frzT B H t rs) := Ex.of fun a o q => by
  unfold frzT
  by_cases ha : a = t ∨ a ∈ rs
  · rw [hB a ha] at q
    cases q
  · rw [if_neg ha]
    exact q
theorem TabAt.rp (h : TabAt H t rs n R) : Rp K (frzT B H t rs) (dTab n R) (.ref t) := by
  have ft : ∀ a, a = t ∨ a ∈ rs → frzT B H t rs a = H a := fun a ha => by unfold frzT; rw [if_pos ha]
  refine ⟨t, rs.map V.ref, rfl, by rw [ft t (.inl rfl)]; exact h.tab, ?_⟩
  have key : ∀ (l : List Addr) (i : Nat), (∀ x r, l[x]? = some r → rs[i + x]? = some r) → RpA K (frzT B H t rs) ((List.range l.length).map fun x => .lst ((List.range n).map fun z => .bl (R (i + x) z))) (l.map V.ref) := by
    intro l
    induction l with
    | nil => intro i _; rfl
    | cons a l ih =>
      intro i hl
      rw [List.length_cons, List.range_succ_eq_map, List.map_cons, List.map_map]
      have ha := hl 0 a rfl
      refine ⟨.ref a, l.map V.ref, rfl, ⟨a, _, rfl, by rw [ft a (.inr (List.mem_of_getElem? ha))]; exact h.row _ a ha, ?_⟩, ?_⟩
      · have e1 : ((List.range n).map fun z => Da.bl (R (i + 0) z)) = ((List.range n).map fun z => R (i + 0) z).map Da.bl := by rw [List.map_map]; rfl
        have e2 : ((List.range n).map fun z => V.bl (R (i + 0) z)) = ((List.range n).map fun z => R (i + 0) z).map V.bl := by rw [List.map_map]; rfl
        rw [e1, e2]
        generalize (List.range n).map (fun z => R (i + 0) z) = bs
        induction bs with
        | nil => rfl
        | cons b r ih => exact ⟨_, _, rfl, rfl, ih⟩
      · have := ih (i + 1) fun x r hx => by
          have := hl (x + 1) r hx
          rw [show i + 1 + x = i + (x + 1) by omega]
          exact this
        have e : ((fun x => Da.lst ((List.range n).map fun z => Da.bl (R (i + x) z))) ∘ Nat.succ) = fun x => Da.lst ((List.range n).map fun z => Da.bl (R (i + 1 + x) z)) := by
          funext x
          show Da.lst ((List.range n).map fun z => Da.bl (R (i + (x + 1)) z)) = _
          rw [show i + 1 + x = i + (x + 1) by omega]
        rw [e]
        exact this
  have := key rs 0 fun x r hx => by rw [Nat.zero_add]; exact hx
  rw [h.len] at this
  have e : ((List.range n).map fun x => Da.lst ((List.range n).map fun z => Da.bl (R (0 + x) z))) = (List.range n).map fun x => Da.lst ((List.range n).map fun z => Da.bl (R x z)) := by
    apply List.map_congr_left
    intro a _
    rw [Nat.zero_add]
  rw [e] at this
  exact this
/-- the table frozen -/
theorem Nx.frzT {B2 H2 : Hp} (nx : Nx B H B2 H2) (h : TabAt H2 t rs n R) (h0 : ∀ a, a = t ∨ a ∈ rs → H a = none) (hB : ∀ a, a = t ∨ a ∈ rs → B2 a = none) : Nx B H (Fo.frzT B2 H2 t rs) H2 :=
  ⟨frz_ex h nx.ok, nx.b.trans (frz_sub hB), nx.h, fun a h1 h2 => by
    have ha : ¬ (a = t ∨ a ∈ rs) := fun z => h2.ne (h0 a z)
    unfold Fo.frzT
    rw [if_neg ha]
    exact nx.nw a h1 h2⟩
theorem yes_if {σ : L2.St} {H : Hp} {A C : Hp → Prop} (h : A H) : tYes σ H fun b H3 => if b = true then A H3 else C H3 := by
  show (if true = true then A H else C H)
  rw [if_pos rfl]
  exact h
/-- [[False for y in range(n)] for x in range(n)] -/
theorem z_table {σ : L2.St} {ta tb : TA} {j j1 : Nat} {vs vs1 : List Nat} {Q : VK} (ha : EvS K Γ ta [.int (n : Int)]) (hb : ∀ i : Nat, EvS K ((wipeG Γ vs).set j (some (.int (i : Int)))) tb [.int (n : Int)]) (hs : Sl K B Γ σ) (e : Ex B H) (hn : n ≤ 1000)
    (hw : j ∈ vs) (hw1 : j1 ∈ vs1)
    (k : ∀ t rs B2 H2, Nx B H B2 H2 → TabAt H2 t rs n (fun _ _ => false) → (∀ a, a = t ∨ a ∈ rs → H a = none) → (∀ a, a = t ∨ a ∈ rs → B2 a = none) → Q (.ref t) H2) :
    tLc (iRng1 ta) (gName j) tYes (tLc (iRng1 tb) (gName j1) tYes (tC (.bl false)) vs1) vs σ H Q :=
  ha σ B H hs e _ fun us B1 H1 n1 ra => by
    obtain ⟨x, rfl, rx⟩ := rpa1 ra
    obtain rfl : x = .int (n : Int) := rx
    refine ⟨(n : Int), rfl, by omega, by omega, fun Dl hD => ?_⟩
    rw [Int.toNat_natCast]
    refine lc_range (lo := 0) (n := n) (fun i H' => ∃ rs B', Nx B1 H1 B' H' ∧ B' Dl = none ∧ H' Dl = some (.lst (rs.map V.ref)) ∧ rs.length = i ∧ rs.Nodup ∧ Dl ∉ rs ∧
        ∀ r ∈ rs, H1 r = none ∧ B' r = none ∧ H' r = some (.lst ((List.range n).map fun _ => V.bl false)))
      ⟨[], B1, .out n1.ok hD, fresh_back n1.ok hD, upd_same, rfl, List.nodup_nil, by simp, fun r hr => by cases hr⟩ ?_ ?_
    · rintro i H' hi ⟨rs, B', nx, hB, hH, hl, nd, nt, hr⟩
      refine ⟨wipe_back hw, yes_if ?_⟩
      have hs2 : Sl K B' ((wipeG Γ vs).set j (some (.int (i : Int)))) ((wipe σ vs).set j (some (.int (0 + (i : Int))))) := by
        rw [Int.zero_add]
        exact ((hs.mono (n1.b.trans nx.b)).wipe vs).set j rfl
      refine hb i _ B' H' hs2 nx.ok _ fun us B3 H3 n3 ra3 => ?_
      obtain ⟨x3, rfl, rx3⟩ := rpa1 ra3
      obtain rfl : x3 = .int (n : Int) := rx3
      refine ⟨(n : Int), rfl, by omega, by omega, fun D2 hD2 => ?_⟩
      rw [Int.toNat_natCast]
      refine lc_range (lo := 0) (n := n) (fun i2 H4 => ∃ B4, Nx B3 H3 B4 H4 ∧ B4 D2 = none ∧ H4 D2 = some (.lst ((List.range i2).map fun _ => V.bl false))) ⟨B3, .out n3.ok hD2, fresh_back n3.ok hD2, upd_same⟩ ?_ ?_
      · rintro i2 H4 hi2 ⟨B4, n4, hB4, hH4⟩
        refine ⟨wipe_back hw1, yes_if ?_⟩
        refine ⟨_, hH4, size_lt (by rw [List.length_map, List.length_range]; omega), B4, n4.mut hD2 hB4 (ml_of hH4), hB4, ?_⟩
        rw [upd_same, List.range_succ, List.map_append]
        rfl
      · rintro H4 ⟨B4, n4, hB4, hH4⟩
        have n34 := nx.trans (n3.trans n4)
        have mD := (n3.trans n4).apart hB hH
        have hD2H' : H' D2 = none := fresh_back n3.h hD2
        have ne : D2 ≠ Dl := fun z => by
          rw [z, hH] at hD2H'
          cases hD2H'
        refine ⟨_, mD.2, size_lt (by rw [List.length_map]; omega), rs ++ [D2], B4, n34.mut hD mD.1 (ml_of mD.2), mD.1, ?_, ?_, ?_, ?_, ?_⟩
        · rw [upd_same, List.map_append]
          rfl
        · rw [List.length_append, hl]
          rfl
        · refine List.nodup_append.mpr ⟨nd, by simp, fun a ha b hb => ?_⟩
          rw [List.mem_singleton] at hb
          subst hb
          intro z
          subst z
          rw [(hr a ha).2.2] at hD2H'
          cases hD2H'
        · rw [List.mem_append, List.mem_singleton, not_or]
          exact ⟨nt, Ne.symm ne⟩
        · intro r hr2
          rcases List.mem_append.mp hr2 with hr2 | hr2
          · obtain ⟨q1, q2, q3⟩ := hr r hr2
            have mr := (n3.trans n4).apart q2 q3
            refine ⟨q1, mr.1, ?_⟩
            rw [upd_ne (fun z => nt (by rw [← z]; exact hr2))]
            exact mr.2
          · rw [List.mem_singleton] at hr2
            subst hr2
            refine ⟨fresh_back nx.h hD2H', hB4, ?_⟩
            rw [upd_ne ne]
            exact hH4
    · rintro H' ⟨rs, B', nx, hB, hH, hl, nd, nt, hr⟩
      refine k Dl rs B' H' (n1.trans nx) ⟨hH, hl, nd, nt, fun x r hx => (hr r (List.mem_of_getElem? hx)).2.2⟩ (fun a ha => ?_) (fun a ha => ?_)
      · rcases ha with rfl | ha
        · exact fresh_back n1.h hD
        · exact fresh_back n1.h (hr a ha).1
      · rcases ha with rfl | ha
        · exact hB
        · exact (hr a ha).2.1
theorem q_table {σ : L2.St} {D : Ends} {tz : TS} {i : Nat} {ta tb : TA} {j j1 : Nat} {vs vs1 : List Nat} (ha : EvS K Γ ta [.int (n : Int)]) (hb : ∀ i : Nat, EvS K ((wipeG Γ vs).set j (some (.int (i : Int)))) tb [.int (n : Int)]) (hs : Sl K B Γ σ) (e : Ex B H) (hn : n ≤ 1000)
    (hw : j ∈ vs) (hw1 : j1 ∈ vs1)
    (k : ∀ t rs B2 H2, Nx B H B2 H2 → TabAt H2 t rs n (fun _ _ => false) → (∀ a, a = t ∨ a ∈ rs → H a = none) → (∀ a, a = t ∨ a ∈ rs → B2 a = none) → tz D (σ.set i (some (.ref t))) H2) :
    tSeq (tAsg (tLc (iRng1 ta) (gName j) tYes (tLc (iRng1 tb) (gName j1) tYes (tC (.bl false)) vs1) vs) (gName i)) tz D σ H := z_table (Q := fun v H1 => gName i v σ H1 (tz D)) ha hb hs e hn hw hw1 k
/-! ### one round of the closing -/
def prog (R : Rel) (y x z : Nat) : Rel := fun x' z' => if x' < x ∨ (x' = x ∧ z' < z) then stepR R y x' z' else R x' z'
theorem step_col (R : Rel) (y x : Nat) : stepR R y x y = R x y := by
  unfold stepR
  cases R x y <;> simp
theorem step_row (R : Rel) (y z : Nat) : stepR R y y z = R y z := by
  unfold stepR
  cases R y z <;> simp
theorem prog_at (R : Rel) (y x z : Nat) : prog R y x z x z = R x z := by
  unfold prog
  rw [if_neg (by omega)]
theorem prog_col (R : Rel) (y x z : Nat) : prog R y x z x y = R x y := by
  unfold prog
  split
  · exact step_col R y x
  · rfl
theorem prog_row (R : Rel) (y x z z2 : Nat) : prog R y x z y z2 = R y z2 := by
  unfold prog
  split
  · exact step_row R y z2
  · rfl
theorem prog_set (R : Rel) (y x z : Nat) : updR (prog R y x z) x z (stepR R y x z) = prog R y x (z + 1) := by
  funext x' z'
  unfold updR prog
  by_cases e : x' = x ∧ z' = z
  · rw [if_pos e, e.1, e.2, if_pos (by omega)]
  · rw [if_neg e]
    by_cases h : x' < x ∨ (x' = x ∧ z' < z)
    · rw [if_pos h, if_pos (by omega)]
    · rw [if_neg h, if_neg (by omega)]
theorem prog_next {R : Rel} {y x n : Nat} (x' z' : Nat) (hz : z' < n) : prog R y x n x' z' = prog R y (x + 1) 0 x' z' := by
  unfold prog
  by_cases h : x' < x ∨ (x' = x ∧ z' < n)
  · rw [if_pos h, if_pos (by omega)]
  · rw [if_neg h, if_neg (by omega)]
theorem prog_zero (R : Rel) (y : Nat) : prog R y 0 0 = R := by
  funext x z
  unfold prog
  rw [if_neg (by omega)]
theorem prog_end {R : Rel} {y n : Nat} (x z : Nat) (hx : x < n) : prog R y n 0 x z = stepR R y x z := by
  unfold prog
  rw [if_pos (.inl hx)]
end
end Fo

/-! Fo5: == and != of an instance by its class's own ==, whatever stands on the right -/
namespace Fo
open PySem PySem.Spec PyProof.Rows L2
open Evl (ixN_nat)
variable [Nm]
section
variable {M : Model} {prog : Program} {w : World} {A : Around} {E : Value → Shared → Prop} {s : Shared} {K : PySem.W.Frag} {x C f L : Addr} {ox : Obj} {od : Option Obj} {b tb : Value} {h₀ : Heap} {m : Str → Option Value}
theorem ifBound_ne {args : List Value} {Q : Option Value → Shared → Prop} (X : K.In s.heap) (I : PySem.W.InstAt s.heap x ox C od) (hs : PySem.W.findIn K (.ref C) "__ne__" = some (some (.builtin "object.__ne__")))
    (h : wpAny M A (call (.builtin "object.__ne__") (.ref x :: args)) (fun v => Q (some v)) E s) : wpAny M A (callSpecialIfBound? (.ref x) "__ne__" args) Q E s := by
  simp only [callSpecialIfBound?, bindSpecialIfBound?]
  refine wpAny_holding (wpAny_bind (wpAny_bind (wpAny_bind (I.type.here ((PySem.W.looks_findIn X hs).here ?_)))))
  refine wpAny_bind (wpAny_askSetting (wpAny_ite ?_))
  have fin : wpAny M A (call (.builtin "object.__ne__") ([.ref x] ++ args) >>= fun v => pure (some v)) Q E s := wpAny_bind (wpAny_mono h (fun v s' h' => wpAny_pure h') fun _ _ h' => h')
  split
  · exact wpAny_bind (wpAny_of_eq (F.cmp_object.ne.bind _) (wpAny_pure (by exact fin)))
  · exact wpAny_tryCatch (wpAny_bind (wpAny_of_eq (F.cmp_object.ne.bind _) (wpAny_pure (by exact fin))))
theorem entry_ne {Q : Fin → Shared → Prop} (hu : A.units < cLine) (X : K.In s.heap) (I : PySem.W.InstAt s.heap x ox C od) (hs : PySem.W.findIn K (.ref C) "__eq__" = some (some (.ref f))) (hf : PySem.W.isFn K (.ref f) = true)
    (h : wpAny (model prog w) A (call (.ref f) [.ref x, b]) (fun v s' => ∃ r, v = .bool r ∧ Q (.done (.ret (.bool (!r)))) s') E s) : wpAny (model prog w) A (Builtin.«object.__ne__» ⟨[.ref x, b], []⟩) Q E s := by
  unfold Builtin.«object.__ne__»
  repeat (first
    | with_reducible refine wpAny_cRoomFor hu ?_
    | (refine wpAny_bind (m := callSpecialIfBound? (.ref x) (Str.ofString "__eq__") [b])
        (PySem.W.ifBound_K X I hs hf (wpAny_mono h (fun r s' hr => by
          obtain ⟨c, rfl, hq⟩ := hr
          repeat (first | exact hq | exact wpAny_pure hq | exact wpAny_truthy_bool hq | (refine wpAny_bind (m := truthy (.bool _)) (wpAny_truthy_bool ?_)) | wp_step)) fun _ _ e => e)))
    | wp_step)
theorem call_ne {Q : Value → Shared → Prop} (hu : A.units + 1 < cLine) (X : K.In s.heap) (I : PySem.W.InstAt s.heap x ox C od) (hm : PySem.W.mroIn K C (.type "object") = some true) (hs : PySem.W.findIn K (.ref C) "__eq__" = some (some (.ref f))) (hf : PySem.W.isFn K (.ref f) = true)
    (h : wpAny (model prog w) A.in1 (call (.ref f) [.ref x, b]) (fun v s' => ∃ r, v = .bool r ∧ Q (.bool (!r)) s') E s) : wpAny (model prog w) A (call (.builtin "object.__ne__") [.ref x, b]) Q E s :=
  wpAny_call (codeAny_call_builtin F.cmp_object.ne.plain F.cmpEntry_ne (PySem.W.check_slot F.cmpKind_ne F.cmpSplit_ne (I.type.andThen (PySem.W.looks_mroIn X hm)) (F.cmpArgs_ne _ _) (entry_ne (A := A.in1) hu X I hs hf (wpAny_mono h (fun v s' hv => by
    obtain ⟨r, rfl, q⟩ := hv
    exact ⟨r, rfl, q⟩) fun _ _ e => e))))
theorem ne_K {Q : Value → Shared → Prop} (hu : A.units + 1 < cLine) (F : Fr h₀ L s.heap m) (X₀ : K.In h₀) (I : PySem.W.InstAt s.heap x ox C od) (hb : PySem.W.Looks (model prog w) s.heap (typeOf b) tb) (hn : PySem.W.notFirst K C tb = true) (hm : PySem.W.mroIn K C (.type "object") = some true)
    (hne : PySem.W.findIn K (.ref C) "__ne__" = some (some (.builtin "object.__ne__"))) (hs : PySem.W.findIn K (.ref C) "__eq__" = some (some (.ref f))) (hf : PySem.W.isFn K (.ref f) = true)
    (h : wpAny (model prog w) A.in1 (call (.ref f) [.ref x, b]) (fun v s' => ∃ r, v = .bool r ∧ Q (.bool (!r)) s') E s) : wpAny (model prog w) A (richCompare .NotEq (.ref x) b) Q E s := by
  have X := X₀.keeps F.keep
  have one : wpAny (model prog w) A (tryCompare (.ref x) (cmpInfo .NotEq).2.1 b) (fun r s' => ∃ v, r = some v ∧ Q v s') E s := by
    unfold tryCompare
    refine wpAny_bind (ifBound_ne X I hne (call_ne hu X I hm hs hf (wpAny_mono h (fun v s' hv => ?_) fun _ _ e => e)))
    obtain ⟨r, rfl, q⟩ := hv
    exact ⟨r, rfl, wpAny_pure ⟨_, rfl, q⟩⟩
  unfold richCompare
  simp only [oneThing_ref]
  refine wpAny_holding (wpAny_bind (wpAny_cRoomFor (Nat.lt_of_succ_lt hu) ?_))
  refine wpAny_bind (I.type.here (wpAny_bind (hb.here ?_)))
  split
  · rename_i q
    have e : PySem.W.subIn K tb (.ref C) = some false := by
      rcases Bool.or_eq_true_iff.mp hn with e | e
      · rw [beq_iff_eq.mp e] at q; simp at q
      · exact beq_iff_eq.mp e
    refine wpAny_bind ((PySem.W.looks_subIn X e).here ?_)
    simp only [Bool.false_eq_true, if_false]
    refine wpAny_bind (wpAny_mono one (fun r s' z => ?_) fun _ _ e => e)
    obtain ⟨v, rfl, hq⟩ := z
    exact wpAny_pure hq
  · refine wpAny_bind (wpAny_pure ?_)
    simp only [Bool.false_eq_true, if_false]
    refine wpAny_bind (wpAny_mono one (fun r s' z => ?_) fun _ _ e => e)
    obtain ⟨v, rfl, hq⟩ := z
    exact wpAny_pure hq
end
/-- what the class has for == and != -/
structure EqC (K : PySem.W.Frag) (C f : Addr) : Prop where
  eq : PySem.W.findIn K (.ref C) "__eq__" = some (some (.ref f))
  fn : PySem.W.isFn K (.ref f) = true
  ne : PySem.W.findIn K (.ref C) "__ne__" = some (some (.builtin "object.__ne__"))
  mro : PySem.W.mroIn K C (.type "object") = some true
  cls : PySem.W.findIn K (.ref C) "__class__" = some (some (.builtin "object.__class__"))
  get : PySem.W.specialIn K (.builtin "object.__class__") "__get__" = some (some (.builtin "getset_descriptor.__get__"))
  tk : PySem.W.takesIn K (.builtin "object.__class__") = some true
theorem ty_ins {K : PySem.W.Frag} {H : Hp} {a C dx f : Addr} {fs : List (Str × V)} (q : EqC K C f) (c : Cls K C) (h : H a = some (.ins C dx fs)) : TyX K H (.ref a) (.ref C) := .base (.ins h c q.cls q.get q.tk q.mro)
def rEqI (K : PySem.W.Frag) (C : Addr) (sp : Sp) (E : XK) (neg : Bool) : R2 := fun x y H Q => ∃ a dx fs T, x = .ref a ∧ H a = some (.ins C dx fs) ∧ TyX K H y T ∧ PySem.W.notFirst K C T = true ∧ sp [x, y] H (fun v H' => ∃ r, v = .bl r ∧ Q (.bl (if neg then !r else r)) H') E
section
variable {X : Cx} {CX : CXT} {C f : Addr} {fd : FuncData} {ps : List Str} {sp : Sp} {E : XK} {n : Nat}
theorem op_eqI (F : FnOk X.prog X.w X.K X.mg X.base CX n f fd ps sp) (q : EqC X.K C f) (hb : Binds X.K fd ps []) (hx : Passes CX X E) (hr : Room n X.A) : OpR X (compareOp .Eq) (rEqI X.K C sp E false) := by
  intro pins s σ H x y v u Q I rx ry h
  obtain ⟨a, dx, fs, T, rfl, ha, ty, hn, hsp⟩ := h
  cases rx
  obtain ⟨mA, J, _⟩ := ins_get I.hok ha
  obtain ⟨od, J, _⟩ := J.look
  obtain ⟨m, hF⟩ := I.fr
  obtain ⟨P, Z, p, hx2⟩ := kit_of I ry ty
  show wpAny (model X.prog X.w) X.A (richCompare .Eq (.ref a) u) (EP X pins σ Q) X.xe s
  refine PySem.W.cmp_K (op := .Eq) hr.units0 hF I.ok.mod.kin J (Z.ty _ _ I.kIn p) hn q.eq q.fn ?_
  have r2 : Vals [V.ref a, y] [Value.ref a, u] := .cons rfl (.cons ry .nil)
  have hl := F.len _ _ _ _ hsp
  refine wpAny_call (codeAny_mono (F.run X.A X.stack s H ⟨[.ref a, u], []⟩ [.ref a, u] [.ref a, y] _ E hr I.env0 (by
    have := hb s [.ref a, u] I.kIn (by simpa using hl)
    simpa using this) r2 hsp) fun r s' hq => ?_)
  cases r with
  | error e => exact hx pins σ H s e s' I hq
  | ok fl =>
    cases fl with
    | ret w =>
      obtain ⟨z, H', I', rz, r0, ez, hq2⟩ := I.after hq
      subst ez
      cases rz
      exact ⟨.bl r0, H', I', rfl, hq2⟩
    | next => exact False.elim hq
    | brk => exact False.elim hq
    | cont => exact False.elim hq
theorem op_neI (F : FnOk X.prog X.w X.K X.mg X.base CX n f fd ps sp) (q : EqC X.K C f) (hb : Binds X.K fd ps []) (hx : Passes CX X E) (hr : Room (n + 1) X.A) : OpR X (compareOp .NotEq) (rEqI X.K C sp E true) := by
  intro pins s σ H x y v u Q I rx ry h
  obtain ⟨a, dx, fs, T, rfl, ha, ty, hn, hsp⟩ := h
  cases rx
  obtain ⟨mA, J, _⟩ := ins_get I.hok ha
  obtain ⟨od, J, _⟩ := J.look
  obtain ⟨m, hF⟩ := I.fr
  obtain ⟨P, Z, p, hx2⟩ := kit_of I ry ty
  show wpAny (model X.prog X.w) X.A (richCompare .NotEq (.ref a) u) (EP X pins σ Q) X.xe s
  have hun : X.A.units + 1 < cLine := by
    have := hr.units
    omega
  refine ne_K hun hF I.ok.mod.kin J (Z.ty _ _ I.kIn p) hn q.mro q.ne q.eq q.fn ?_
  have r2 : Vals [V.ref a, y] [Value.ref a, u] := .cons rfl (.cons ry .nil)
  have hl := F.len _ _ _ _ hsp
  refine wpAny_call (codeAny_mono (F.run X.A.in1 X.stack s H ⟨[.ref a, u], []⟩ [.ref a, u] [.ref a, y] _ E hr.in1 I.env0.in1 (by
    have := hb s [.ref a, u] I.kIn (by simpa using hl)
    simpa using this) r2 hsp) fun r s' hq => ?_)
  cases r with
  | error e => exact hx pins σ H s e s' I hq
  | ok fl =>
    cases fl with
    | ret w =>
      obtain ⟨z, H', I', rz, r0, ez, hq2⟩ := I.after hq
      subst ez
      cases rz
      exact ⟨r0, rfl, .bl (!r0), H', I', rfl, hq2⟩
    | next => exact False.elim hq
    | brk => exact False.elim hq
    | cont => exact False.elim hq
end
end Fo

/-! Fo6: == and != of data that are alike -/
namespace Fo
open PySem PySem.Spec PyProof.Rows L2
open Evl (ixN_nat)
variable [Nm]
mutual
def toP : Da → PyData
  | .non => .none
  | .bl b => .bool b
  | .int i => .int i
  | .str x => .str x
  | .lst ds => .list (toPs ds)
  | .tup ds => .tuple (toPs ds)
  | .rng _ _ => .none
  | .raw _ => .none
  | .fn _ _ _ _ _ => .none
  | .ins _ _ _ => .none
def toPs : List Da → List PyData
  | [] => []
  | d :: ds => toP d :: toPs ds
end
/-- numbers, truths, None in lists and tuples, at most k deep -/
def dep : Nat → Da → Bool
  | _, .non => true
  | _, .bl _ => true
  | _, .int _ => true
  | k + 1, .lst ds => ds.all (dep k)
  | k + 1, .tup ds => ds.all (dep k)
  | _, _ => false
section
variable {K : PySem.W.Frag} {B H : Hp} {Γ : List (Option Da)} {ta tb : TE} {d d1 d2 : Da}
theorem dp_of (e : Ex B H) : ∀ (k : Nat) (d : Da) (v : V), dep k d = true → Rp K B d v → Dp K H v (toP d)
  | _, .non, v, _, r => by
    obtain rfl : v = .non := r
    exact .non
  | _, .bl b, v, _, r => by
    obtain rfl : v = .bl b := r
    exact .bl b
  | _, .int i, v, _, r => by
    obtain rfl : v = .int i := r
    exact .int i
  | 0, .lst _, _, h, _ => by cases h
  | 0, .tup _, _, h, _ => by cases h
  | k + 1, .lst ds, v, h, r => by
    obtain ⟨a, xs, rfl, h1, h2⟩ := r
    have h3 : ∀ x ∈ ds, dep k x = true := List.all_eq_true.mp h
    refine .lst (sq1 e h1) ?_
    clear h h1
    induction ds generalizing xs with
    | nil =>
      obtain rfl : xs = [] := h2
      exact .nil
    | cons d ds ih =>
      obtain ⟨x, r, rfl, h4, h5⟩ := h2
      exact .cons (dp_of e k d x (h3 d (by simp)) h4) (ih r h5 fun y hy => h3 y (List.mem_cons_of_mem _ hy))
  | k + 1, .tup ds, v, h, r => by
    obtain ⟨a, xs, rfl, h1, h2⟩ := r
    have h3 : ∀ x ∈ ds, dep k x = true := List.all_eq_true.mp h
    refine .tup (ex_t e h1) ?_
    clear h h1
    induction ds generalizing xs with
    | nil =>
      obtain rfl : xs = [] := h2
      exact .nil
    | cons d ds ih =>
      obtain ⟨x, r, rfl, h4, h5⟩ := h2
      exact .cons (dp_of e k d x (h3 d (by simp)) h4) (ih r h5 fun y hy => h3 y (List.mem_cons_of_mem _ hy))
  | 0, .str _, _, h, _ => by cases h
  | 0, .rng _ _, _, h, _ => by cases h
  | 0, .raw _, _, h, _ => by cases h
  | 0, .fn _ _ _ _ _, _, h, _ => by cases h
  | 0, .ins _ _ _, _, h, _ => by cases h
  | k + 1, .str _, _, h, _ => by cases h
  | k + 1, .rng _ _, _, h, _ => by cases h
  | k + 1, .raw _, _, h, _ => by cases h
  | k + 1, .fn _ _ _ _ _, _, h, _ => by cases h
  | k + 1, .ins _ _ _, _, h, _ => by cases h
theorem lay_of : ∀ (k : Nat) (d : Da), dep k d = true → (toP d).canLay0 = true
  | _, .non, _ => rfl
  | _, .bl b, _ => rfl
  | _, .int i, _ => rfl
  | k + 1, .lst ds, h => by
    have h3 : ∀ x ∈ ds, dep k x = true := List.all_eq_true.mp h
    show PyData.canLayAll0 (toPs ds) = true
    clear h
    induction ds with
    | nil => rfl
    | cons d ds ih =>
      show ((toP d).canLay0 && PyData.canLayAll0 (toPs ds)) = true
      rw [lay_of k d (h3 d (by simp)), ih fun y hy => h3 y (List.mem_cons_of_mem _ hy)]
      rfl
  | k + 1, .tup ds, h => by
    have h3 : ∀ x ∈ ds, dep k x = true := List.all_eq_true.mp h
    show PyData.canLayAll0 (toPs ds) = true
    clear h
    induction ds with
    | nil => rfl
    | cons d ds ih =>
      show ((toP d).canLay0 && PyData.canLayAll0 (toPs ds)) = true
      rw [lay_of k d (h3 d (by simp)), ih fun y hy => h3 y (List.mem_cons_of_mem _ hy)]
      rfl
  | 0, .lst _, h => by cases h
  | 0, .tup _, h => by cases h
  | 0, .str _, h => by cases h
  | 0, .rng _ _, h => by cases h
  | 0, .raw _, h => by cases h
  | 0, .fn _ _ _ _ _, h => by cases h
  | 0, .ins _ _ _, h => by cases h
  | k + 1, .str _, h => by cases h
  | k + 1, .rng _ _, h => by cases h
  | k + 1, .raw _, h => by cases h
  | k + 1, .fn _ _ _ _ _, h => by cases h
  | k + 1, .ins _ _ _, h => by cases h
theorem depth_of : ∀ (k : Nat) (d : Da), dep k d = true → (toP d).depth ≤ k + 1
  | _, .non, _ => by simp [toP, PyData.depth]
  | _, .bl b, _ => by simp [toP, PyData.depth]
  | _, .int i, _ => by simp [toP, PyData.depth]
  | k + 1, .lst ds, h => by
    have h3 : ∀ x ∈ ds, dep k x = true := List.all_eq_true.mp h
    have h4 : PyData.depthAll (toPs ds) ≤ k + 1 := by
      clear h
      induction ds with
      | nil => simp [toPs, PyData.depthAll]
      | cons d ds ih =>
        have h5 := depth_of k d (h3 d (by simp))
        have h6 := ih fun y hy => h3 y (List.mem_cons_of_mem _ hy)
        simp only [toPs, PyData.depthAll]
        omega
    simp only [toP, PyData.depth]
    omega
  | k + 1, .tup ds, h => by
    have h3 : ∀ x ∈ ds, dep k x = true := List.all_eq_true.mp h
    have h4 : PyData.depthAll (toPs ds) ≤ k + 1 := by
      clear h
      induction ds with
      | nil => simp [toPs, PyData.depthAll]
      | cons d ds ih =>
        have h5 := depth_of k d (h3 d (by simp))
        have h6 := ih fun y hy => h3 y (List.mem_cons_of_mem _ hy)
        simp only [toPs, PyData.depthAll]
        omega
    simp only [toP, PyData.depth]
    omega
  | 0, .lst _, h => by cases h
  | 0, .tup _, h => by cases h
  | 0, .str _, h => by cases h
  | 0, .rng _ _, h => by cases h
  | 0, .raw _, h => by cases h
  | 0, .fn _ _ _ _ _, h => by cases h
  | 0, .ins _ _ _, h => by cases h
  | k + 1, .str _, h => by cases h
  | k + 1, .rng _ _, h => by cases h
  | k + 1, .raw _, h => by cases h
  | k + 1, .fn _ _ _ _ _, h => by cases h
  | k + 1, .ins _ _ _, h => by cases h
theorem shaped_of {k : Nat} (hk : k ≤ 60) (h : dep k d = true) : SeqAt.shaped (toP d) = true := by
  unfold SeqAt.shaped
  rw [lay_of k d h, decide_eq_true (Nat.le_trans (depth_of k d h) (by omega))]
  rfl
/-- == of data -/
theorem g_eqD {k : Nat} (hk : k ≤ 60) (ha : EvG K Γ ta d1) (hb : EvG K Γ tb d2) (h1 : dep k d1 = true) (h2 : dep k d2 = true) : EvG K Γ (tOp (rEqD K) ta tb) (.bl (PyData.eqv (toP d1) (toP d2))) := g_op ha hb fun B H vx vy e rx ry Q q =>
  ⟨toP d1, toP d2, dp_of e k _ _ h1 rx, dp_of e k _ _ h2 ry, shaped_of hk h1, shaped_of hk h2, q.now e rfl⟩
theorem g_neD {k : Nat} (hk : k ≤ 60) (ha : EvG K Γ ta d1) (hb : EvG K Γ tb d2) (h1 : dep k d1 = true) (h2 : dep k d2 = true) : EvG K Γ (tOp (rNeD K) ta tb) (.bl (!PyData.eqv (toP d1) (toP d2))) := g_op ha hb fun B H vx vy e rx ry Q q =>
  ⟨toP d1, toP d2, dp_of e k _ _ h1 rx, dp_of e k _ _ h2 ry, shaped_of hk h1, shaped_of hk h2, q.now e rfl⟩
theorem eqv_same {k : Nat} (h : dep k d = true) : PyData.eqv (toP d) (toP d) = true := SeqAt.eqv_refl _ (lay_of k d h)
/-- data told equal -/
theorem g_eqT {k : Nat} (hk : k ≤ 60) (ha : EvG K Γ ta d1) (hb : EvG K Γ tb d2) (h1 : dep k d1 = true) (e : d1 = d2) : EvG K Γ (tOp (rEqD K) ta tb) (.bl true) := by
  subst e
  exact (g_eqD hk ha hb h1 h1).to (by rw [eqv_same h1])
theorem g_neT {k : Nat} (hk : k ≤ 60) (ha : EvG K Γ ta d1) (hb : EvG K Γ tb d2) (h1 : dep k d1 = true) (e : d1 = d2) : EvG K Γ (tOp (rNeD K) ta tb) (.bl false) := by
  subst e
  exact (g_neD hk ha hb h1 h1).to (by rw [eqv_same h1]; rfl)
/-- == and != of instances by the class's own == over data -/
theorem g_eqI' {C : Addr} {E : XK} {f : List Da → Da → Prop} {ns : List Str} {fs : List Da} {T : Value} {r : Bool} (ha : EvG K Γ ta (.ins C ns fs)) (hb : EvG K Γ tb d2) (hT : ∀ B H v, Ex B H → Rp K B d2 v → TyX K H v T) (hn : PySem.W.notFirst K C T = true) (hf : f [.ins C ns fs, d2] (.bl r)) :
    EvG K Γ (tOp (rEqI K C (Pu K f) E false) ta tb) (.bl r) := g_op ha hb fun B H vx vy e rx ry Q q => by
  obtain ⟨a, dx, xs, rfl, h1, h2⟩ := id rx
  exact ⟨a, dx, _, T, rfl, e _ _ h1, hT B H vy e ry, hn, B, [.ins C ns fs, d2], .bl r, e, ⟨_, _, rfl, rx, _, _, rfl, ry, rfl⟩, hf, fun v B2 H2 n rv => ⟨r, rv, (q.mono n).now n.ok rfl⟩⟩
theorem g_neI' {C : Addr} {E : XK} {f : List Da → Da → Prop} {ns : List Str} {fs : List Da} {T : Value} {r : Bool} (ha : EvG K Γ ta (.ins C ns fs)) (hb : EvG K Γ tb d2) (hT : ∀ B H v, Ex B H → Rp K B d2 v → TyX K H v T) (hn : PySem.W.notFirst K C T = true) (hf : f [.ins C ns fs, d2] (.bl r)) :
    EvG K Γ (tOp (rEqI K C (Pu K f) E true) ta tb) (.bl (!r)) := g_op ha hb fun B H vx vy e rx ry Q q => by
  obtain ⟨a, dx, xs, rfl, h1, h2⟩ := id rx
  exact ⟨a, dx, _, T, rfl, e _ _ h1, hT B H vy e ry, hn, B, [.ins C ns fs, d2], .bl r, e, ⟨_, _, rfl, rx, _, _, rfl, ry, rfl⟩, hf, fun v B2 H2 n rv => ⟨r, rv, (q.mono n).now n.ok rfl⟩⟩
theorem ty_dins {C f : Addr} {ns : List Str} {fs : List Da} (q : EqC K C f) (c : Cls K C) : ∀ B H v, Ex B H → Rp K B (.ins C ns fs) v → TyX K H v (.ref C) := fun B H v e r => by
  obtain ⟨a, dx, xs, rfl, h1, h2⟩ := r
  exact ty_ins q c (e _ _ h1)
theorem same_notFirst {C : Addr} : PySem.W.notFirst K C (.ref C) = true := by simp [PySem.W.notFirst]
/-- isinstance(x, C) of an instance of C -/
theorem g_isiC {C f : Addr} {ns : List Str} {fs : List Da} (q : EqC K C f) (c : Cls K C) (ha : EvG K Γ ta (.ins C ns fs)) (hk : PySem.W.kitOne K (.ref C) (.ref C) = some true) : EvG K Γ (tCB (rIsi K) (tCons ta (tCons (tC (.ref C)) tNil))) (.bl true) := fun σ B H hs e Q k =>
  ha σ B H hs e _ fun x B1 H1 n1 rx => ⟨x, .ref C, .ref C, .ref C, true, rfl, .own C, ty_dins q c B1 H1 x n1.ok rx, hk, (k.mono n1).now n1.ok rfl⟩
/-- xs + ys of lists -/
theorem g_cat {ds es : List Da} (ha : EvG K Γ ta (.lst ds)) (hb : EvG K Γ tb (.lst es)) (hl : ds.length + es.length ≤ 1000000) : EvG K Γ (tOp rCat ta tb) (.lst (ds ++ es)) := g_op ha hb fun B H vx vy e rx ry Q q => by
  obtain ⟨a, xs, rfl, h1, h2⟩ := rx
  obtain ⟨b, ys, rfl, h3, h4⟩ := ry
  exact ⟨a, b, xs, ys, rfl, rfl, e _ _ h1, e _ _ h3, size_ok (by rw [h2.length, h4.length]; exact hl), fun p hp => q.lst e (h2.append h4) hp⟩
end
end Fo

/-! Fo7: statements over data: what the slots hold behind a statement, the lists that grow, what is returned -/
namespace Fo
open PySem PySem.Spec PyProof.Rows L2
open Evl (ixN_nat)
variable [Nm]
abbrev Sls := List (Option Da)
abbrev Mus := List (Nat × List Da)
/-- slots with lists that still change, apart from each other and from the data -/
def MuS (K : PySem.W.Frag) (H0 B H : Hp) (σ : L2.St) : Mus → Prop
  | [] => True
  | m :: r => (∃ l xs, σ[m.1]? = some (some (.ref l)) ∧ H0 l = none ∧ B l = none ∧ H l = some (.lst xs) ∧ RpA K B m.2 xs ∧ ∀ q ∈ r, σ[q.1]? ≠ some (some (.ref l))) ∧ MuS K H0 B H σ r
inductive Out where
  | nx (Γ : Sls) (M : Mus)
  | rt (d : Da)
  | bk (Γ : Sls) (M : Mus)
def Fin (K : PySem.W.Frag) (B0 H0 B : Hp) (D : Ends) : Out → Prop
  | .nx Γ M => ∀ σ2 B2 H2, Ex B B2 → Sl K B2 Γ σ2 → MuS K H0 B2 H2 σ2 M → Nx B0 H0 B2 H2 → D.nx σ2 H2
  | .rt d => ∀ v B2 H2, Nx B0 H0 B2 H2 → Rp K B2 d v → D.rt v H2
  | .bk Γ M => ∀ σ2 B2 H2, Ex B B2 → Sl K B2 Γ σ2 → MuS K H0 B2 H2 σ2 M → Nx B0 H0 B2 H2 → D.bk σ2 H2
def EvT (K : PySem.W.Frag) (B0 H0 : Hp) (Γ : Sls) (M : Mus) (ts : TS) (o : Out) : Prop :=
  ∀ σ B H D, Sl K B Γ σ → MuS K H0 B H σ M → Nx B0 H0 B H → Fin K B0 H0 B D o → ts D σ H
/-- less is told -/
def le : Sls → Sls → Prop
  | [], [] => True
  | a :: r, b :: s => (b = none ∨ b = a) ∧ le r s
  | _, _ => False
theorem le_refl : ∀ Γ : Sls, le Γ Γ
  | [] => trivial
  | _ :: r => ⟨.inr rfl, le_refl r⟩
theorem Sl.le {K : PySem.W.Frag} {B : Hp} : ∀ {Γ Γ2 : Sls} {σ : L2.St}, Sl K B Γ σ → le Γ Γ2 → Sl K B Γ2 σ
  | [], [], _, h, _ => h
  | a :: r, b :: s, [], h, l => by
    cases a <;> exact False.elim h
  | none :: r, b :: s, x :: σ, h, l => by
    have e : b = none := by
      rcases l.1 with e | e <;> exact e
    subst e
    exact ⟨trivial, Sl.le h.2 l.2⟩
  | some d :: r, b :: s, x :: σ, h, l => by
    rcases l.1 with e | e
    · subst e
      exact ⟨trivial, Sl.le h.2 l.2⟩
    · subst e
      exact ⟨h.1, Sl.le h.2 l.2⟩
theorem Sl.len {K : PySem.W.Frag} {B : Hp} : ∀ {Γ : Sls} {σ : L2.St}, Sl K B Γ σ → σ.length = Γ.length
  | [], [], _ => rfl
  | a :: r, [], h => by
    cases a <;> exact False.elim h
  | [], x :: σ, h => False.elim h
  | none :: r, x :: σ, h => by
    rw [List.length_cons, List.length_cons, Sl.len h.2]
  | some d :: r, x :: σ, h => by
    rw [List.length_cons, List.length_cons, Sl.len h.2]
section
variable {K : PySem.W.Frag} {B0 H0 B H B2 H2 : Hp} {Γ Γ1 Γ2 : Sls} {M M1 M2 : Mus} {te ta tb : TE} {tt : TT} {t u tu t1 t2 : TS} {o : Out} {d d1 d2 : Da} {σ : L2.St} {i j k : Nat} {ds : List Da}
theorem MuS.nx : ∀ {M : Mus}, MuS K H0 B H σ M → Nx B H B2 H2 → MuS K H0 B2 H2 σ M
  | [], _, _ => trivial
  | _ :: _, ⟨⟨l, xs, h1, h2, h3, h4, h5, h6⟩, hr⟩, n => ⟨⟨l, xs, h1, h2, (n.apart h3 h4).1, (n.apart h3 h4).2, RpA.mono n.b _ _ h5, h6⟩, hr.nx n⟩
theorem MuS.set {x : Option V} : ∀ {M : Mus}, MuS K H0 B H σ M → (∀ q ∈ M, q.1 ≠ i) → MuS K H0 B H (σ.set i x) M
  | [], _, _ => trivial
  | m :: r, ⟨⟨l, xs, h1, h2, h3, h4, h5, h6⟩, hr⟩, n => by
    have hg : ∀ q ∈ m :: r, (σ.set i x)[q.1]? = σ[q.1]? := fun q hq => by rw [List.getElem?_set_ne (fun e => n q hq e.symm)]
    exact ⟨⟨l, xs, by rw [hg m (by simp)]; exact h1, h2, h3, h4, h5, fun q hq => by rw [hg q (List.mem_cons_of_mem _ hq)]; exact h6 q hq⟩, hr.set fun q hq => n q (List.mem_cons_of_mem _ hq)⟩
theorem MuS.updH {l : Addr} {o : HO} : ∀ {M : Mus}, MuS K H0 B H σ M → (∀ q ∈ M, σ[q.1]? ≠ some (some (.ref l))) → MuS K H0 B (upd H l o) σ M
  | [], _, _ => trivial
  | m :: r, ⟨⟨a, xs, h1, h2, h3, h4, h5, h6⟩, hr⟩, n => ⟨⟨a, xs, h1, h2, h3, by
    have : a ≠ l := fun e => n m (by simp) (by rw [h1, e])
    rw [upd_ne this]
    exact h4, h5, h6⟩, hr.updH fun q hq => n q (List.mem_cons_of_mem _ hq)⟩
theorem MuS.updB {l : Addr} {o : HO} (hl : B l = none) : ∀ {M : Mus}, MuS K H0 B H σ M → (∀ q ∈ M, σ[q.1]? ≠ some (some (.ref l))) → MuS K H0 (upd B l o) H σ M
  | [], _, _ => trivial
  | m :: r, ⟨⟨a, xs, h1, h2, h3, h4, h5, h6⟩, hr⟩, n => ⟨⟨a, xs, h1, h2, by
    have : a ≠ l := fun e => n m (by simp) (by rw [h1, e])
    rw [upd_ne this]
    exact h3, h4, RpA.mono (.new hl) _ _ h5, h6⟩, hr.updB hl fun q hq => n q (List.mem_cons_of_mem _ hq)⟩
theorem MuS.fresh {l : Addr} : ∀ {M : Mus}, MuS K H0 B H σ M → H l = none → ∀ q ∈ M, σ[q.1]? ≠ some (some (.ref l))
  | [], _, _, q, hq => nomatch hq
  | m :: r, ⟨⟨a, xs, h1, h2, h3, h4, h5, h6⟩, hr⟩, n, q, hq => by
    rcases List.mem_cons.mp hq with e | hq
    · subst e
      rw [h1]
      intro z
      cases z
      rw [n] at h4
      cases h4
    · exact hr.fresh n q hq
theorem Fin.mono {D : Ends} (f : Fin K B0 H0 B D o) (e : Ex B B2) : Fin K B0 H0 B2 D o := by
  cases o with
  | nx Γ M => exact fun σ2 B3 H2 e2 => f σ2 B3 H2 (e.trans e2)
  | rt d => exact f
  | bk Γ M => exact fun σ2 B3 H2 e2 => f σ2 B3 H2 (e.trans e2)
/-! ### rules -/
theorem t_seq (h1 : EvT K B0 H0 Γ M t (.nx Γ1 M1)) (h2 : EvT K B0 H0 Γ1 M1 u o) : EvT K B0 H0 Γ M (tSeq t u) o := fun σ B H D hs hm n f =>
  h1 σ B H _ hs hm n fun σ2 B2 H2 e hs2 hm2 n2 => h2 σ2 B2 H2 D hs2 hm2 n2 (f.mono e)
theorem t_seqR (h1 : EvT K B0 H0 Γ M t (.rt d)) : EvT K B0 H0 Γ M (tSeq t u) (.rt d) := fun σ B H D hs hm n f => h1 σ B H _ hs hm n f
theorem t_seqB (h1 : EvT K B0 H0 Γ M t (.bk Γ1 M1)) : EvT K B0 H0 Γ M (tSeq t u) (.bk Γ1 M1) := fun σ B H D hs hm n f => h1 σ B H _ hs hm n f
theorem t_next : EvT K B0 H0 Γ M tNext (.nx Γ M) := fun σ B H D hs hm n f => f σ B H (.refl _) hs hm n
theorem t_break : EvT K B0 H0 Γ M tBreak (.bk Γ M) := fun σ B H D hs hm n f => f σ B H (.refl _) hs hm n
theorem t_weak (h : EvT K B0 H0 Γ M t (.nx Γ1 M1)) (l : le Γ1 Γ2) : EvT K B0 H0 Γ M t (.nx Γ2 M1) := fun σ B H D hs hm n f =>
  h σ B H D hs hm n fun σ2 B2 H2 e hs2 => f σ2 B2 H2 e (hs2.le l)
theorem t_pre (l : le Γ Γ1) (h : EvT K B0 H0 Γ1 M t o) : EvT K B0 H0 Γ M t o := fun σ B H D hs hm n f => h σ B H D (hs.le l) hm n f
theorem EvT.to {Γ' : Sls} {M' : Mus} (h : EvT K B0 H0 Γ M t (.nx Γ1 M1)) (e : Γ1 = Γ') (e2 : M1 = M') : EvT K B0 H0 Γ M t (.nx Γ' M') := by
  subst e
  subst e2
  exact h
theorem t_asg (h : EvG K Γ te d) (hi : ∀ q ∈ M, q.1 ≠ i := by decide) : EvT K B0 H0 Γ M (tAsg te (gName i)) (.nx (Γ.set i (some d)) M) := fun σ B H D hs hm n f =>
  z_asg h hs n.ok fun v B2 H2 n2 r hs2 => f _ B2 H2 n2.b hs2 ((hm.nx n2).set hi) (n.trans n2)
theorem t_drop (h : EvG K Γ te d) : EvT K B0 H0 Γ M (tDrop te) (.nx Γ M) := fun σ B H D hs hm n f =>
  h σ B H hs n.ok _ fun v B2 H2 n2 r => f _ B2 H2 n2.b (hs.mono n2.b) (hm.nx n2) (n.trans n2)
theorem t_ret (h : EvG K Γ te d) : EvT K B0 H0 Γ M (tRet te) (.rt d) := fun σ B H D hs hm n f =>
  h σ B H hs n.ok _ fun v B2 H2 n2 r => f v B2 H2 (n.trans n2) r
theorem t_if {b : Bool} (h : EvB K Γ tt b) (h1 : b = true → EvT K B0 H0 Γ M t1 o) (h2 : b = false → EvT K B0 H0 Γ M t2 o) : EvT K B0 H0 Γ M (tIfS tt t1 t2) o := fun σ B H D hs hm n f =>
  z_if h hs n.ok (fun hb B2 H2 n2 hs2 => h1 hb σ B2 H2 D hs2 (hm.nx n2) (n.trans n2) (f.mono n2.b)) (fun hb B2 H2 n2 hs2 => h2 hb σ B2 H2 D hs2 (hm.nx n2) (n.trans n2) (f.mono n2.b))
/-- an if that is not taken -/
theorem t_no (h : EvB K Γ tt false) (h2 : EvT K B0 H0 Γ M t2 o) : EvT K B0 H0 Γ M (tIfS tt t1 t2) o := t_if h (fun e => nomatch e) fun _ => h2
theorem t_yes (h : EvB K Γ tt true) (h2 : EvT K B0 H0 Γ M t1 o) : EvT K B0 H0 Γ M (tIfS tt t1 t2) o := t_if h (fun _ => h2) fun e => nomatch e
/-- x = [] that grows -/
theorem t_new (hi : (Γ[i]?).isSome = true := by rfl) (hn : ∀ q ∈ M, q.1 ≠ i := by decide) : EvT K B0 H0 Γ M (tAsg (tLst tNil) (gName i)) (.nx (Γ.set i none) ((i, []) :: M)) := fun σ B H D hs hm n f => by
  refine ⟨Nat.zero_le _, fun l hl => ?_⟩
  have n2 : Nx B H B (upd H l (.lst [])) := .out n.ok hl
  have hlen : σ.length = Γ.length := hs.len
  have hm2 := (hm.nx n2).set (i := i) (x := some (.ref l)) hn
  refine f _ B _ (.refl _) (hs.set0 i) ⟨⟨l, [], ?_, ?_, fresh_back n.ok hl, upd_same, rfl, fun q hq => ?_⟩, hm2⟩ (n.trans n2)
  · have : i < Γ.length := by
      cases e : Γ[i]? with
      | none => rw [e] at hi; cases hi
      | some x => exact (List.getElem?_eq_some_iff.mp e).1
    simp [hlen, this]
  · exact n.h.s l hl
  · rw [List.getElem?_set_ne (fun e => hn q hq e.symm)]
    exact hm.fresh hl q hq
theorem t_app (h : EvG K Γ te d) (hz : ds.length < 1000000) : EvT K B0 H0 Γ ((k, ds) :: M) (tDrop (tBM K "list" rAppend (tVar k) (tCons te tNil))) (.nx Γ ((k, ds ++ [d]) :: M)) := fun σ B H D hs hm n f => by
  obtain ⟨⟨l, xs, h1, h2, h3, h4, h5, h6⟩, hr⟩ := hm
  refine z_app h1 h hs n.ok h3 h4 (by rw [h5.length]; exact hz) fun v B2 H2 n2 r => ?_
  have m2 := n2.apart h3 h4
  have n3 := (n.trans n2).mut (o := .lst (xs ++ [v])) h2 m2.1 (ml_of m2.2)
  exact f σ B2 _ n2.b (hs.mono n2.b) ⟨⟨l, _, h1, h2, m2.1, upd_same, (RpA.mono n2.b _ _ h5).append (.one r), h6⟩, (hr.nx n2).updH h6⟩ n3
/-- a list that changes no more -/
theorem t_frz (h : EvT K B0 H0 (Γ.set k (some (.lst ds))) M t o) : EvT K B0 H0 Γ ((k, ds) :: M) t o := fun σ B H D hs hm n f => by
  obtain ⟨⟨l, xs, h1, h2, h3, h4, h5, h6⟩, hr⟩ := hm
  have n2 := n.frz h2 h3 h4
  have eB : Ex B (upd B l (.lst xs)) := .new h3
  refine h σ _ H D ?_ (hr.updB h3 h6) n2 (f.mono eB)
  have hs2 := (hs.mono eB).set (d := .lst ds) (v := .ref l) k ⟨l, xs, rfl, upd_same, RpA.mono eB _ _ h5⟩
  have e : σ.set k (some (.ref l)) = σ := by
    apply List.ext_getElem?
    intro m
    by_cases hm : m = k
    · subst hm
      obtain ⟨hk, e⟩ := List.getElem?_eq_some_iff.mp h1
      rw [List.getElem?_set_self hk, h1]
    · rw [List.getElem?_set_ne (Ne.symm hm)]
  rwa [e] at hs2
theorem t_swap {a b : Nat × List Da} (h : EvT K B0 H0 Γ (b :: a :: M) t o) : EvT K B0 H0 Γ (a :: b :: M) t o := fun σ B H D hs hm n f => by
  obtain ⟨⟨l, xs, h1, h2, h3, h4, h5, h6⟩, ⟨l', xs', h1', h2', h3', h4', h5', h6'⟩, hr⟩ := hm
  refine h σ B H D hs ⟨⟨l', xs', h1', h2', h3', h4', h5', fun q hq => ?_⟩, ⟨l, xs, h1, h2, h3, h4, h5, fun q hq => h6 q (List.mem_cons_of_mem _ hq)⟩, hr⟩ n f
  rcases List.mem_cons.mp hq with e | hq
  · subst e
    rw [h1]
    intro z
    have : l = l' := by
      injection z with z
      injection z with z
      injection z
    subst this
    exact h6 b (by simp) h1'
  · exact h6' q hq
/-- for, one name -/
theorem t_for {wi : TI} (hi : EvI K Γ wi ds) (Δ : Nat → Sls) (N : Nat → Mus) (l0 : le Γ (Δ 0)) (hN : N 0 = M) (hn : ∀ i, ∀ q ∈ N i, q.1 ≠ j)
    (hb : ∀ i d, ds[i]? = some d → EvT K B0 H0 ((Δ i).set j (some d)) (N i) tu (.nx (Δ (i + 1)) (N (i + 1)))) : EvT K B0 H0 Γ M (tFor wi (gName j) tu) (.nx (Δ ds.length) (N ds.length)) := fun σ B H D hs hm n f => by
  subst hN
  refine z_for hi hs n.ok (fun i σ' B' H' => Sl K B' (Δ i) σ' ∧ MuS K H0 B' H' σ' (N i) ∧ Nx B0 H0 B' H') (fun B1 H1 n1 => ⟨(hs.mono n1.b).le l0, hm.nx n1, n.trans n1⟩) (fun i σ' B' H' q => q.2.2.ok)
    (fun i d x σ' B' H' B2 H2 hd eb ⟨q1, q2, q3⟩ n2 rx => ?_) (fun σ' B' H' eb ⟨q1, q2, q3⟩ => f σ' B' H' eb q1 q2 q3)
  exact hb i d hd _ B2 H2 _ ((q1.mono n2.b).set j rx) ((q2.nx n2).set (hn i)) (q3.trans n2) fun σ3 B3 H3 e3 r1 r2 r3 => ⟨B3, n2.b.trans e3, r1, r2, r3⟩
/-- for, one name, left by a return in turn m -/
theorem t_forR {wi : TI} (hi : EvI K Γ wi ds) (Δ : Nat → Sls) (N : Nat → Mus) (m : Nat) (hm : m < ds.length) (l0 : le Γ (Δ 0)) (hN : N 0 = M) (hn : ∀ i, ∀ q ∈ N i, q.1 ≠ j)
    (hb : ∀ i d, i < m → ds[i]? = some d → EvT K B0 H0 ((Δ i).set j (some d)) (N i) tu (.nx (Δ (i + 1)) (N (i + 1)))) (hr : ∀ d1, ds[m]? = some d1 → EvT K B0 H0 ((Δ m).set j (some d1)) (N m) tu (.rt d)) :
    EvT K B0 H0 Γ M (tFor wi (gName j) tu) (.rt d) := fun σ B H D hs hmu n f => by
  subst hN
  refine z_for hi hs n.ok (fun i σ' B' H' => i ≤ m ∧ Sl K B' (Δ i) σ' ∧ MuS K H0 B' H' σ' (N i) ∧ Nx B0 H0 B' H') (fun B1 H1 n1 => ⟨Nat.zero_le _, (hs.mono n1.b).le l0, hmu.nx n1, n.trans n1⟩) (fun i σ' B' H' q => q.2.2.2.ok)
    (fun i d x σ' B' H' B2 H2 hd eb ⟨q0, q1, q2, q3⟩ n2 rx => ?_) (fun σ' B' H' eb ⟨q0, _⟩ => by omega)
  by_cases hlt : i < m
  · exact hb i d hlt hd _ B2 H2 _ ((q1.mono n2.b).set j rx) ((q2.nx n2).set (hn i)) (q3.trans n2) fun σ3 B3 H3 e3 r1 r2 r3 => ⟨B3, n2.b.trans e3, hlt, r1, r2, r3⟩
  · have e : i = m := by omega
    subst e
    exact hr d hd _ B2 H2 _ ((q1.mono n2.b).set j rx) ((q2.nx n2).set (hn i)) (q3.trans n2) f
/-- for, two names -/
theorem t_for2 {wi : TI} {i2 : Nat} (hi : EvI K Γ wi ds) (Δ : Nat → Sls) (N : Nat → Mus) (l0 : le Γ (Δ 0)) (hN : N 0 = M) (hn : ∀ i, ∀ q ∈ N i, q.1 ≠ j ∧ q.1 ≠ i2)
    (hb : ∀ i d, ds[i]? = some d → ∃ a b, d = .tup [a, b] ∧ EvT K B0 H0 (((Δ i).set j (some a)).set i2 (some b)) (N i) tu (.nx (Δ (i + 1)) (N (i + 1)))) : EvT K B0 H0 Γ M (tFor wi (gTup K 2 (gCons (gName j) (gCons (gName i2) gNil))) tu) (.nx (Δ ds.length) (N ds.length)) := fun σ B H D hs hm n f => by
  subst hN
  refine z_for hi hs n.ok (fun i σ' B' H' => Sl K B' (Δ i) σ' ∧ MuS K H0 B' H' σ' (N i) ∧ Nx B0 H0 B' H') (fun B1 H1 n1 => ⟨(hs.mono n1.b).le l0, hm.nx n1, n.trans n1⟩) (fun i σ' B' H' q => q.2.2.ok)
    (fun i d x σ' B' H' B2 H2 hd eb ⟨q1, q2, q3⟩ n2 rx => ?_) (fun σ' B' H' eb ⟨q1, q2, q3⟩ => f σ' B' H' eb q1 q2 q3)
  obtain ⟨a, b, rfl, hT⟩ := hb i d hd
  obtain ⟨p, xs, rfl, h3, h4⟩ := rx
  obtain ⟨x1, x2, rfl, r1, r2⟩ := rpa2 h4
  refine ⟨p, _, rfl, ex_t n2.ok h3, rfl, _, [x2], rfl, _, [], rfl, rfl, ?_⟩
  exact hT _ B2 H2 _ (((q1.mono n2.b).set j r1).set i2 r2) (((q2.nx n2).set fun q hq => (hn i q hq).1).set fun q hq => (hn i q hq).2) (q3.trans n2) fun σ3 B3 H3 e3 r1 r2 r3 => ⟨B3, n2.b.trans e3, r1, r2, r3⟩
/-- a while of m turns -/
theorem t_while (Δ : Nat → Sls) (N : Nat → Mus) (m : Nat) (l0 : le Γ (Δ 0)) (hN : N 0 = M) (hb : ∀ i, i < m → EvB K (Δ i) tt true ∧ EvT K B0 H0 (Δ i) (N i) tu (.nx (Δ (i + 1)) (N (i + 1)))) (he : EvB K (Δ m) tt false) :
    EvT K B0 H0 Γ M (tWhile tt tu) (.nx (Δ m) (N m)) := fun σ B H D hs hm n f => by
  subst hN
  refine z_while (B := B) (K := K) (fun a σ' B' H' => ∃ i, a = m - i ∧ i ≤ m ∧ Ex B B' ∧ Sl K B' (Δ i) σ' ∧ MuS K H0 B' H' σ' (N i) ∧ Nx B0 H0 B' H') m ⟨0, by omega, by omega, .refl _, hs.le l0, hm, n⟩ ?_
  rintro a σ' B' H' ⟨i, rfl, hi, eb, q1, q2, q3⟩
  by_cases hlt : i < m
  · exact ⟨Δ i, true, q1, q3.ok, (hb i hlt).1, fun _ B2 H2 n2 => (hb i hlt).2 σ' B2 H2 _ (q1.mono n2.b) (q2.nx n2) (q3.trans n2) fun σ3 B3 H3 e3 r1 r2 r3 => ⟨m - (i + 1), by omega, B3, i + 1, rfl, hlt, eb.trans (n2.b.trans e3), r1, r2, r3⟩, fun e => nomatch e⟩
  · have e : i = m := by omega
    subst e
    exact ⟨Δ i, false, q1, q3.ok, he, (fun e => nomatch e), fun _ B2 H2 n2 => f σ' B2 H2 (eb.trans n2.b) (q1.mono n2.b) (q2.nx n2) (q3.trans n2)⟩
/-- a, b = … -/
theorem t_asg2 {i2 : Nat} (h : EvG K Γ te (.tup [d1, d2])) (hi : ∀ q ∈ M, q.1 ≠ i ∧ q.1 ≠ i2 := by decide) : EvT K B0 H0 Γ M (tAsg te (gTup K 2 (gCons (gName i) (gCons (gName i2) gNil)))) (.nx ((Γ.set i (some d1)).set i2 (some d2)) M) := fun σ B H D hs hm n f =>
  h σ B H hs n.ok _ fun v B2 H2 n2 r => by
    obtain ⟨p, xs, rfl, h3, h4⟩ := r
    obtain ⟨x1, x2, rfl, r1, r2⟩ := rpa2 h4
    exact ⟨p, _, rfl, ex_t n2.ok h3, rfl, _, [x2], rfl, _, [], rfl, rfl, f _ B2 H2 n2.b (((hs.mono n2.b).set i r1).set i2 r2) (((hm.nx n2).set fun q hq => (hi q hq).1).set fun q hq => (hi q hq).2) (n.trans n2)⟩
/-- a body -/
theorem body_of {D : Ends} (h : EvT K B H Γ [] t (.rt d)) (hs : Sl K B Γ σ) (e : Ex B H) (k : Goes K B H d D.rt) : t D σ H :=
  h σ B H D hs trivial (.refl e) fun v B2 H2 n r => k v B2 H2 n r
end
end Fo

/-! Fo8: expressions that change the growing lists (draws); what raises -/
namespace Fo
open PySem PySem.Spec PyProof.Rows L2
open Evl (ixN_nat)
variable [Nm]
/-- from one state to the next: the data grow, the growing lists change, nothing else does -/
structure Gx (K : PySem.W.Frag) (B0 H0 : Hp) (σ : L2.St) (M : Mus) (B H : Hp) (M' : Mus) (B2 H2 : Hp) : Prop where
  e : Ex B B2
  m : MuS K H0 B2 H2 σ M'
  n : Nx B0 H0 B2 H2
  k : ∀ q ∈ M', ∃ p ∈ M, p.1 = q.1
  f : ∀ a o, notC o = true → B a = none → H a = some o → (∀ q ∈ M, σ[q.1]? ≠ some (some (.ref a))) → B2 a = none ∧ H2 a = some o
def EvX (K : PySem.W.Frag) (B0 H0 : Hp) (Γ : Sls) (M : Mus) (te : TE) (post : Da → Mus → Prop) : Prop :=
  ∀ σ B H, Sl K B Γ σ → MuS K H0 B H σ M → Nx B0 H0 B H → ∀ Q : VK, (∀ d M' v B2 H2, post d M' → Gx K B0 H0 σ M B H M' B2 H2 → Rp K B2 d v → Q v H2) → te σ H Q
def EvXS (K : PySem.W.Frag) (B0 H0 : Hp) (Γ : Sls) (M : Mus) (ta : TA) (post : List Da → Mus → Prop) : Prop :=
  ∀ σ B H, Sl K B Γ σ → MuS K H0 B H σ M → Nx B0 H0 B H → ∀ Q : List V → Hp → Prop, (∀ ds M' vs B2 H2, post ds M' → Gx K B0 H0 σ M B H M' B2 H2 → RpA K B2 ds vs → Q vs H2) → ta σ H Q
def EvXB (K : PySem.W.Frag) (B0 H0 : Hp) (Γ : Sls) (M : Mus) (tt : TT) (post : Bool → Mus → Prop) : Prop :=
  ∀ σ B H, Sl K B Γ σ → MuS K H0 B H σ M → Nx B0 H0 B H → ∀ Q : Bool → Hp → Prop, (∀ b M' B2 H2, post b M' → Gx K B0 H0 σ M B H M' B2 H2 → Q b H2) → tt σ H Q
section
variable {K : PySem.W.Frag} {B0 H0 B H B2 H2 B3 H3 : Hp} {Γ Γ1 Γ2 : Sls} {M M1 M2 : Mus} {te ta tb : TE} {tt : TT} {t u tu t1 t2 : TS} {o : Out} {d d1 d2 : Da} {σ σ2 : L2.St} {i j k : Nat} {ds : List Da} {r : R2} {tr : TA} {post P1 : Da → Mus → Prop}
theorem MuS.congr : ∀ {M : Mus}, MuS K H0 B H σ M → (∀ q ∈ M, σ2[q.1]? = σ[q.1]?) → MuS K H0 B H σ2 M
  | [], _, _ => trivial
  | m :: r, ⟨⟨l, xs, h1, h2, h3, h4, h5, h6⟩, hr⟩, n =>
    ⟨⟨l, xs, by rw [n m (by simp)]; exact h1, h2, h3, h4, h5, fun q hq => by rw [n q (List.mem_cons_of_mem _ hq)]; exact h6 q hq⟩, hr.congr fun q hq => n q (List.mem_cons_of_mem _ hq)⟩
theorem Gx.of (hm : MuS K H0 B H σ M) (n : Nx B0 H0 B H) (n2 : Nx B H B2 H2) : Gx K B0 H0 σ M B H M B2 H2 := ⟨n2.b, hm.nx n2, n.trans n2, fun q hq => ⟨q, hq, rfl⟩, fun a o hn h1 h2 _ => n2.apart h1 h2 hn⟩
theorem Gx.trans (g : Gx K B0 H0 σ M B H M1 B2 H2) (g2 : Gx K B0 H0 σ M1 B2 H2 M2 B3 H3) : Gx K B0 H0 σ M B H M2 B3 H3 :=
  ⟨g.e.trans g2.e, g2.m, g2.n, fun q hq => by
    obtain ⟨p, hp, e⟩ := g2.k q hq
    obtain ⟨p2, hp2, e2⟩ := g.k p hp
    exact ⟨p2, hp2, e2.trans e⟩, fun a o hn h1 h2 h3 => by
    obtain ⟨q1, q2⟩ := g.f a o hn h1 h2 h3
    exact g2.f a o hn q1 q2 fun q hq => by
      obtain ⟨p, hp, e⟩ := g.k q hq
      rw [← e]
      exact h3 p hp⟩
theorem Gx.slots (g : Gx K B0 H0 σ2 M B H M1 B2 H2) (h : ∀ q ∈ M, σ2[q.1]? = σ[q.1]?) : Gx K B0 H0 σ M B H M1 B2 H2 :=
  ⟨g.e, g.m.congr fun q hq => by
    obtain ⟨p, hp, e⟩ := g.k q hq
    rw [← e]
    exact (h p hp).symm, g.n, g.k, fun a o hn h1 h2 h3 => g.f a o hn h1 h2 fun q hq => by rw [h q hq]; exact h3 q hq⟩
theorem x_pure (h : EvG K Γ te d) : EvX K B0 H0 Γ M te (fun d' M' => d' = d ∧ M' = M) := fun σ B H hs hm n Q q =>
  h σ B H hs n.ok _ fun v B2 H2 n2 r => q d M v B2 H2 ⟨rfl, rfl⟩ (.of hm n n2) r
theorem xs_pure (h : EvS K Γ tr ds) : EvXS K B0 H0 Γ M tr (fun d' M' => d' = ds ∧ M' = M) := fun σ B H hs hm n Q q =>
  h σ B H hs n.ok _ fun v B2 H2 n2 r => q ds M v B2 H2 ⟨rfl, rfl⟩ (.of hm n n2) r
theorem xb_pure {b : Bool} (h : EvB K Γ tt b) : EvXB K B0 H0 Γ M tt (fun d' M' => d' = b ∧ M' = M) := fun σ B H hs hm n Q q =>
  h σ B H hs n.ok _ fun B2 H2 n2 => q b M B2 H2 ⟨rfl, rfl⟩ (.of hm n n2)
theorem x_imp {P2 : Da → Mus → Prop} (h : EvX K B0 H0 Γ M te P1) (hp : ∀ d M', P1 d M' → P2 d M') : EvX K B0 H0 Γ M te P2 := fun σ B H hs hm n Q q =>
  h σ B H hs hm n Q fun d M' v B2 H2 p => q d M' v B2 H2 (hp d M' p)
theorem x_op {P2 : Da → Da → Mus → Prop} (ha : EvX K B0 H0 Γ M ta P1) (hb : ∀ d1 M1, P1 d1 M1 → EvX K B0 H0 Γ M1 tb (P2 d1)) (hr : ∀ d1 M1 d2 M2, P1 d1 M1 → P2 d1 d2 M2 → ∃ d, RG K r d1 d2 d ∧ post d M2) : EvX K B0 H0 Γ M (tOp r ta tb) post := fun σ B H hs hm n Q q =>
  ha σ B H hs hm n _ fun d1 M1 v1 B1 H1 p1 g1 r1 => hb d1 M1 p1 σ B1 H1 (hs.mono g1.e) g1.m g1.n _ fun d2 M2 v2 B2 H2 p2 g2 r2 => by
    obtain ⟨d, hd, hp⟩ := hr d1 M1 d2 M2 p1 p2
    exact hd B2 H2 v1 v2 g2.n.ok (Rp.mono g2.e _ _ r1) r2 Q fun v3 B3 H3 n3 r3 => q d M2 v3 B3 H3 hp ((g1.trans g2).trans (.of g2.m g2.n n3)) r3
theorem xs_nil : EvXS K B0 H0 Γ M tNil (fun ds M' => ds = [] ∧ M' = M) := fun σ B H hs hm n Q q => q [] M [] B H ⟨rfl, rfl⟩ (.of hm n (.refl n.ok)) rfl
theorem xs_cons {post : List Da → Mus → Prop} (ha : EvX K B0 H0 Γ M ta P1) (hr : ∀ d1 M1, P1 d1 M1 → EvXS K B0 H0 Γ M1 tr (fun ds M2 => post (d1 :: ds) M2)) : EvXS K B0 H0 Γ M (tCons ta tr) post := fun σ B H hs hm n Q q =>
  ha σ B H hs hm n _ fun d1 M1 v1 B1 H1 p1 g1 r1 => hr d1 M1 p1 σ B1 H1 (hs.mono g1.e) g1.m g1.n _ fun ds M2 vs B2 H2 p2 g2 r2 =>
    q (d1 :: ds) M2 (v1 :: vs) B2 H2 p2 (g1.trans g2) ⟨v1, vs, rfl, Rp.mono g2.e _ _ r1, r2⟩
theorem x_call {f : List Da → Da → Prop} {E : XK} {P : List Da → Mus → Prop} (h : EvXS K B0 H0 Γ M tr P) (hf : ∀ ds M1, P ds M1 → ∃ d, f ds d ∧ post d M1) : EvX K B0 H0 Γ M (tCall (Pu K f) [] E tr) post := fun σ B H hs hm n Q q =>
  h σ B H hs hm n _ fun ds M1 vs B1 H1 p1 g1 r1 => by
    obtain ⟨d, hd, hp⟩ := hf ds M1 p1
    rw [List.append_nil]
    exact ⟨B1, ds, d, g1.n.ok, r1, hd, fun v B2 H2 n2 r2 => q d M1 v B2 H2 hp (g1.trans (.of g1.m g1.n n2)) r2⟩
theorem x_and {P : Mus → Prop} (ha : EvX K B0 H0 Γ M ta (fun d M' => d = .bl true ∧ P M')) (hb : ∀ M', P M' → EvX K B0 H0 Γ M' tb post) : EvX K B0 H0 Γ M (tAndV ta tb) post := fun σ B H hs hm n Q q =>
  ha σ B H hs hm n _ fun d1 M1 v1 B1 H1 ⟨p0, p1⟩ g1 r1 => by
    subst p0
    obtain rfl : v1 = .bl true := r1
    refine ⟨true, rfl, ?_⟩
    rw [if_pos rfl]
    exact hb M1 p1 σ B1 H1 (hs.mono g1.e) g1.m g1.n Q fun d2 M2 v2 B2 H2 p2 g2 => q d2 M2 v2 B2 H2 p2 (g1.trans g2)
theorem xb_test {P : Bool → Mus → Prop} (h : EvX K B0 H0 Γ M te (fun d M' => ∃ b, d = .bl b ∧ P b M')) : EvXB K B0 H0 Γ M (tTest te) P := fun σ B H hs hm n Q q =>
  h σ B H hs hm n _ fun d M' v B2 H2 ⟨b, e, p⟩ g2 r => by
    subst e
    exact ⟨b, r, q b M' B2 H2 p g2⟩
theorem t_xasg (h : EvX K B0 H0 Γ M te P1) (hk : ∀ d M1, P1 d M1 → (∀ q ∈ M1, q.1 ≠ i) ∧ EvT K B0 H0 (Γ.set i (some d)) M1 t o) : EvT K B0 H0 Γ M (tSeq (tAsg te (gName i)) t) o := fun σ B H D hs hm n f =>
  h σ B H hs hm n _ fun d M1 v B2 H2 p g2 r => by
    obtain ⟨h1, h2⟩ := hk d M1 p
    exact h2 _ B2 H2 D ((hs.mono g2.e).set i r) (g2.m.set h1) g2.n (f.mono g2.e)
theorem t_xret (h : EvX K B0 H0 Γ M te (fun d' _ => d' = d)) : EvT K B0 H0 Γ M (tRet te) (.rt d) := fun σ B H D hs hm n f =>
  h σ B H hs hm n _ fun d' M1 v B2 H2 p g2 r => by
    subst p
    exact f v B2 H2 g2.n r
/-- [te for x in ds if tt], the test with draws -/
theorem x_lc {wi : TI} {vs : List Nat} {v : Da → Da} {I : Mus → Prop} (hi : EvI K Γ wi ds) (hl : ds.length ≤ 500000) (hj : j ∈ vs) (hI : I M) (hk : ∀ q ∈ M, q.1 ∉ vs)
    (hb : ∀ d ∈ ds, ∀ M', I M' → EvXB K B0 H0 ((wipeG Γ vs).set j (some d)) M' tt (fun _ M'' => I M'') ∧ EvG K ((wipeG Γ vs).set j (some d)) te (v d)) :
    EvX K B0 H0 Γ M (tLc wi (gName j) tt te vs) (fun d M' => I M' ∧ ∃ l : List Da, l.Sublist ds ∧ d = .lst (l.map v)) := fun σ B H hs hm n Q q =>
  hi σ B H hs n.ok _ fun J B1 H1 n1 w Dl hD => by
    have hD0 : H0 Dl = none := (n.trans n1).h.s Dl hD
    have g1 := Gx.of hm n n1
    have g2 : Gx K B0 H0 σ M B1 H1 M B1 (upd H1 Dl (.lst [])) := .of g1.m g1.n (.out n1.ok hD)
    have hfr := g1.m.fresh hD
    refine ⟨fun i m H' => m = ds.length - i ∧ i ≤ ds.length ∧ ∃ (B' : Hp) (acc : List V) (M' : Mus) (l : List Da), Gx K B0 H0 σ M B1 H1 M' B' H' ∧ B' Dl = none ∧ H' Dl = some (.lst acc) ∧ I M' ∧ l.Sublist (ds.take i) ∧ RpA K B' (l.map v) acc,
      ⟨ds.length, by simp, Nat.zero_le _, B1, [], M, [], g2, fresh_back n1.ok hD, upd_same, hI, by simp, rfl⟩, ?_⟩
    rintro i m H' ⟨rfl, hi, B', acc, M', l, g, hB, hH, hI', hsub, ra⟩
    have hf' : ∀ q ∈ M', σ[q.1]? ≠ some (some (.ref Dl)) := fun q hq => by
      obtain ⟨p, hp, e⟩ := g.k q hq
      rw [← e]
      exact hfr p hp
    by_cases hlt : i < ds.length
    · refine .inr ⟨w.goes i H' hlt (g.e.trans g.n.ok), fun H'' => ∃ (B'' : Hp) (acc : List V) (M' : Mus) (l : List Da), Gx K B0 H0 σ M B1 H1 M' B'' H'' ∧ B'' Dl = none ∧ H'' Dl = some (.lst acc) ∧ I M' ∧ l.Sublist (ds.take (i + 1)) ∧ RpA K B'' (l.map v) acc,
        fun H'' z => ⟨ds.length - (i + 1), by omega, rfl, hlt, z⟩, fun x H'' y => ?_⟩
      obtain ⟨B3, n3, rx⟩ := w.yld i B' H' x H'' ds[i] (by simp [hlt]) g.e g.n.ok y
      have m3 := n3.apart hB hH
      have g3 := g.trans (.of g.m g.n n3)
      have et : (ds.take (i + 1)) = ds.take i ++ [ds[i]] := take_snoc hlt
      obtain ⟨ht, he⟩ := hb ds[i] (List.getElem_mem _) M' hI'
      have hs2 : Sl K B3 ((wipeG Γ vs).set j (some ds[i])) ((wipe σ vs).set j (some x)) := ((hs.mono (n1.b.trans g3.e)).wipe vs).set j rx
      have same : ∀ q ∈ M', ((wipe σ vs).set j (some x))[q.1]? = σ[q.1]? := fun q hq => by
        obtain ⟨p, hp, e⟩ := g.k q hq
        have h1 : q.1 ∉ vs := by
          rw [← e]
          exact hk p hp
        rw [List.getElem?_set_ne (fun e => h1 (by rw [← e]; exact hj)), wipe_get, if_neg (fun z => h1 z.1)]
      refine ⟨wipe_back hj, ht _ B3 H'' hs2 (g3.m.congr same) g3.n _ fun b M4 B4 H4 hI4 g4 => ?_⟩
      have m4 := g4.f Dl _ rfl m3.1 m3.2 fun q hq => by
        rw [same q hq]
        exact hf' q hq
      have g5 := g3.trans (g4.slots same)
      cases b with
      | false =>
        rw [if_neg Bool.false_ne_true]
        exact ⟨B4, acc, M4, l, g5, m4.1, m4.2, hI4, by rw [et]; exact hsub.trans (List.sublist_append_left _ _), RpA.mono (n3.b.trans g4.e) _ _ ra⟩
      | true =>
        rw [if_pos rfl]
        refine he _ B4 H4 (hs2.mono g4.e) g4.n.ok _ fun z B5 H5 n5 rz => ?_
        have m5 := n5.apart m4.1 m4.2
        have g6 := g5.trans (.of g5.m g5.n n5)
        have hf6 : ∀ q ∈ M4, σ[q.1]? ≠ some (some (.ref Dl)) := fun q hq => by
          obtain ⟨p, hp, e⟩ := g6.k q hq
          rw [← e]
          exact hfr p hp
        refine ⟨acc, m5.2, size_lt ?_, B5, acc ++ [z], M4, l ++ [ds[i]], ⟨g6.e, g6.m.updH hf6, g6.n.mut hD0 m5.1 (ml_of m5.2), g6.k, fun a o hn h1 h2 h3 => ?_⟩, m5.1, upd_same, hI4, by rw [et]; exact hsub.append (List.Sublist.refl _), ?_⟩
        · have h1 := hsub.length_le
          rw [List.length_take] at h1
          rw [ra.length, List.length_map]
          omega
        · have hne : a ≠ Dl := ne_of_none h2 hD
          obtain ⟨q1, q2⟩ := g6.f a o hn h1 h2 h3
          exact ⟨q1, by rw [upd_ne hne]; exact q2⟩
        · rw [List.map_append]
          exact (RpA.mono ((n3.b.trans g4.e).trans n5.b) _ _ ra).append (.one rz)
    · have ei : i = ds.length := by omega
      subst ei
      rw [List.take_length] at hsub
      refine .inl ⟨w.stops H' (g.e.trans g.n.ok), ?_⟩
      have n3 := g.n.frz hD0 hB hH
      exact q _ M' _ _ _ ⟨hI', l, hsub, rfl⟩ (g1.trans ⟨g.e.trans (.new hB), g.m.updB hB hf', n3, g.k, fun a o hn h1 h2 h3 => by
        have hne : a ≠ Dl := ne_of_none h2 hD
        obtain ⟨q1, q2⟩ := g.f a o hn h1 h2 h3
        exact ⟨by rw [upd_ne hne]; exact q1, q2⟩⟩) ⟨Dl, acc, rfl, upd_same, RpA.mono (.new hB) _ _ ra⟩
end
end Fo

set_option maxHeartbeats 4000000
/-! Fo9: sorted of a tuple of ints -/
namespace Fo
open PySem PyProof.Rows Srt SrtO
section
variable {prog : Program} {w : World} {A : Around} {E : Value → Shared → Prop} {s : Shared}
theorem collect_tup {l : Addr} {vs : List Value} {Q : List Value → Shared → Prop} (hl : IsTup s.heap l vs.toArray)
    (h : Q vs { s with heap := (s.heap.push (seqObj "list" #[] 0)).update s.heap.objs.size (Obj.mapSeq (· ++ vs.toArray)) }) (hsz : vs.length ≤ sizeLine) :
    wpAny (model prog w) A (collect (.ref l)) Q E s := by
  obtain ⟨o, ho, hc, n, hd⟩ := id hl
  unfold collect
  refine wpAny_bind (wpAny_runValue (codeAny_builtin entry_proto_collect' ?_))
  show wpAny _ _ (do again (.builtin "list.__iadd__" ⟨[← newList [], .ref l], []⟩)) _ _ s
  refine wpAny_bind (wpAny_newList (wpAny_pure ⟨Code.quiet_builtin _ (by decide +kernel), codeAny_builtin entry_list_iadd' ?_⟩))
  show wpAny _ _ (Builtin.List.listExtendWith (.ref s.heap.objs.size) (.ref l) (.ref s.heap.objs.size)) _ _ { s with heap := s.heap.push (seqObj "list" #[] 0) }
  unfold Builtin.List.listExtendWith
  have ho' : (s.heap.push (seqObj "list" #[] 0)).get? l = some o := Heap.get?_push_of_some _ ho
  refine wpAny_bind (wpAny_typeOf (T := "tuple") ⟨o, ho', hc⟩ ?_)
  have ht : (Value.type "tuple" == Value.type "tuple") = true := by rfl
  rw [if_pos (by rw [ht]; simp)]
  refine wpAny_bind (listItems_at ho' hd ?_)
  refine wpAny_bind (listItems_at (xs := #[]) (n := 0) (Heap.get?_push_size _ rfl) rfl ?_)
  rw [if_neg (by simp)]
  refine wpAny_bind (listUpdate_at (xs := #[]) (n := 0) (Heap.get?_push_size _ rfl) rfl ?_ (Nat.zero_le _) (by show (#[] ++ vs.toArray).size ≤ sizeLine + 1; simp only [Array.size_append, List.size_toArray, List.length_nil]; omega))
  refine wpAny_pure ?_
  show wpAny (model prog w) A (do
      let o ← load s.heap.objs.size
      match o.data with
      | .seq xs _ => pure xs.toList
      | _ => unsupported "internal:collect") Q E { s with heap := (s.heap.push (seqObj "list" #[] 0)).update s.heap.objs.size (Obj.mapSeq (· ++ vs.toArray)) }
  refine wpAny_bind (wpAny_load (get?_update_seq (Heap.get?_push_size _ rfl) _) ?_)
  show wpAny _ _ (pure ((#[] : Array Value) ++ vs.toArray).toList) Q E _
  rw [show ((#[] : Array Value) ++ vs.toArray).toList = vs by simp]
  exact wpAny_pure h
theorem sorted_ordT {l : Addr} {vs : List Value} {ltv : Value → Value → Bool} {Q : Value → Shared → Prop} (O : Swo ltv) (hl : IsTup s.heap l vs.toArray) (hz : vs.length ≤ sizeLine)
    (hS : 2 ≤ vs.length → ∀ (h₁ : Heap) (a : Addr), h₁.get? a = some (seqObj "list" vs.toArray 0) → (∀ b o, s.heap.get? b = some o → b ≠ a ∧ h₁.get? b = some o) → SortableO prog w A.in1.in1 { s with heap := h₁ } a vs ltv)
    (h : ∀ out : List Value, Srtd ltv out → Stb ltv out vs → Q (.ref (s.heap.objs.size + 1)) { s with heap := sortedAll s.heap vs out.toArray }) :
    wpAny (model prog w) A (call (.builtin "sorted") [.ref l]) Q E s := by
  refine Calls.call_function_entry kind_sorted plain_sorted entry_sorted (args_sorted1 _) ?_
  unfold Builtin.«sorted»
  refine wpAny_bind (m := checkCount "sorted" 1 1 _) (wpAny_pure ?_)
  refine wpAny_bind (collect_tup hl ?_ hz)
  refine wpAny_bind (wpAny_newList ?_ hz)
  have hsz : ((s.heap.push (seqObj "list" #[] 0)).update s.heap.objs.size (Obj.mapSeq (· ++ vs.toArray))).objs.size = s.heap.objs.size + 1 := by
    rw [Heap.size_update, size_push']
  have hoL : (((s.heap.push (seqObj "list" #[] 0)).update s.heap.objs.size (Obj.mapSeq (· ++ vs.toArray))).push (seqObj "list" vs.toArray 0)).get? (s.heap.objs.size + 1) = some (seqObj "list" vs.toArray 0) := by
    rw [← hsz]; exact Heap.get?_push_size _ rfl
  have keep : ∀ b o, s.heap.get? b = some o → b ≠ s.heap.objs.size + 1 ∧ (((s.heap.push (seqObj "list" #[] 0)).update s.heap.objs.size (Obj.mapSeq (· ++ vs.toArray))).push (seqObj "list" vs.toArray 0)).get? b = some o := fun b o q => by
    have hlt : b < s.heap.objs.size := Heap.lt_size q
    refine ⟨Nat.ne_of_lt (Nat.lt_succ_of_lt hlt), Heap.get?_push_of_some _ ?_⟩
    rw [Heap.get?_update_ne _ _ _ _ (Nat.ne_of_lt hlt)]
    exact Heap.get?_push_of_some _ q
  show wpAny _ _ _ _ _ { s with heap := ((s.heap.push (seqObj "list" #[] 0)).update s.heap.objs.size (Obj.mapSeq (· ++ vs.toArray))).push (seqObj "list" vs.toArray 0) }
  rw [hsz]
  refine wpAny_bind (wpAny_holding (wpAny_call_entry slot_list_sort ⟨_, hoL, rfl⟩ entry_list_sort (list_sort_ord O hoL hz (fun h2 => hS h2 _ _ hoL keep) fun out hs hb => ⟨_, rfl, ?_⟩) (args_list_sort _)))
  exact wpAny_pure ⟨_, rfl, h out hs hb⟩
end
open PySem.Spec L2
open Evl (ixN_nat)
variable [Nm]
/-- sorted(xs), xs a list or a tuple of ints -/
def rSortedLT (K : PySem.W.Frag) : List V → Hp → VK → Prop := fun vs H Q => ∃ (a : Addr) (ns : List Int), vs = [V.ref a] ∧ (SqL K H a (ns.map V.int) ∨ SqT K H a (ns.map V.int)) ∧
  ∀ (ns' : List Int) (p : Addr), ns'.Perm ns → ns'.Pairwise (· ≤ ·) → H p = none → Q (.ref p) (upd H p (.lst (ns'.map V.int)))
theorem cr_sortedLT {X : Cx} : CallR X (.builtin "sorted") (rSortedLT X.K) := by
  intro pins s σ H vs us Q I r h
  obtain ⟨a, ns, rfl, hs, q⟩ := h
  rcases hs with hs | hs
  · exact cr_sortedI pins s σ H [.ref a] us Q I r ⟨a, ns, rfl, hs, q⟩
  obtain ⟨its, rv, hl, hz⟩ := I.tuple hs
  rw [Vals.ref1 r]
  have hi := rv.ints
  refine sorted_ordT SrtO.swo_int hl (by rw [← rv.length]; exact hz) (fun h2 h₁ a' _ _ => SrtO.ints_sortable hi h2) fun out h1 h2 => ?_
  obtain ⟨k1, k2, k3⟩ := SrtO.ints_out hi h1 h2
  obtain ⟨ep, he'⟩ := PyProof.Rows.sortedAll_at s.heap its out.toArray
  have hlen : ((out.map SrtO.iv).map V.int).length ≤ sizeLine := by
    rw [List.length_map, k2.length_eq]
    rw [List.length_map] at hz
    exact hz
  exact ⟨.ref _, upd H (s.heap.objs.size + 1) (.lst ((out.map SrtO.iv).map V.int)), I.laid (t' := s.toks) (fun _ _ => PyProof.Rows.sortedAll_old) (Nat.le_succ _) ⟨hlen, out, ep, vals_of_ints k1, he'⟩, rfl, q _ _ k2 k3 (I.hok.fresh (Nat.le_succ _))⟩
section
variable {K : PySem.W.Frag} {Γ : Sls} {ta : TE}
theorem sorted_eq : ∀ {ns ms : List Int} (h : ns.Perm ms) (h1 : ns.Pairwise (· ≤ ·)) (h2 : ms.Pairwise (· ≤ ·)), ns = ms
  | [], ms, h, _, _ => (List.nil_perm.mp h).symm ▸ rfl
  | n :: ns, [], h, _, _ => by cases List.perm_nil.mp h
  | n :: ns, m :: ms, h, h1, h2 => by
    have a1 := List.pairwise_cons.mp h1
    have a2 := List.pairwise_cons.mp h2
    have e : n = m := by
      have x1 : n ∈ m :: ms := h.mem_iff.mp (by simp)
      have x2 : m ∈ n :: ns := h.mem_iff.mpr (by simp)
      rcases List.mem_cons.mp x1 with e | x1
      · exact e
      · rcases List.mem_cons.mp x2 with e | x2
        · exact e.symm
        · exact Int.le_antisymm (a1.1 m x2) (a2.1 n x1)
    subst e
    rw [sorted_eq h.cons_inv a1.2 a2.2]
/-- sorted, the answer known -/
theorem c_sorted {ns ms : List Int} {d : Da} (hd : d = .lst (ns.map Da.int) ∨ d = .tup (ns.map Da.int)) (hp : ms.Perm ns) (hs : ms.Pairwise (· ≤ ·)) : RGC K (rSortedLT K) [d] (.lst (ms.map Da.int)) := fun B H vs e r Q k => by
  obtain ⟨x, rfl, r1⟩ := rpa1 r
  rcases hd with rfl | rfl
  · obtain ⟨a, xs, rfl, h1, h2⟩ := r1
    obtain rfl := RpA.ints_of h2
    exact ⟨a, ns, rfl, .inl (sq1 e h1), fun ns' p q1 q2 hpn => by
      rw [sorted_eq (q1.trans hp.symm) q2 hs]
      exact k.lst e (RpA.ints ms) hpn⟩
  · obtain ⟨a, xs, rfl, h1, h2⟩ := r1
    obtain rfl := RpA.ints_of h2
    exact ⟨a, ns, rfl, .inr (ex_t e h1), fun ns' p q1 q2 hpn => by
      rw [sorted_eq (q1.trans hp.symm) q2 hs]
      exact k.lst e (RpA.ints ms) hpn⟩
end
end Fo

/-! Fo10: defs that raise, calls of them, a try of one clause -/
namespace Fo
open PySem PySem.Spec PyProof.Rows L2
open Evl (ixN_nat)
variable [Nm]
/-- an own exception class without own __init__ -/
structure MalC (K : PySem.W.Frag) (mg : Str → Option Value) (x : Str) (C : Addr) : Prop where
  ex : PySem.W.excIn K C [.type "ValueError", .type "Exception", .type "BaseException", .type "object"] "ValueError.__new__" = true
  g : mg x = some (.ref C)
  kp : PySem.W.keepIn K (.ref C) = true
  sb : PySem.W.subIn K (.ref C) (.type "BaseException") = some true
  ty : PySem.W.typeIn K (.ref C) = some (.type "type")
  self : PySem.W.subIn K (.ref C) (.ref C) = some true
  cl : (PySem.W.clsIn K C).isSome = true
theorem exm_self {K : PySem.W.Frag} {mg : Str → Option Value} {x : Str} {C : Addr} (T : MalC K mg x C) : PySem.W.exmOne K (.ref C) (.ref C) = some true := by
  unfold PySem.W.exmOne PySem.W.kitCls
  rw [T.sb, if_pos (by rfl)]
  show (if ((PySem.W.clsIn K C).isSome && PySem.W.typeIn K (.ref C) == some (.type "type")) = true then PySem.W.subIn K (.ref C) (.ref C) else none) = some true
  rw [T.cl, T.ty, if_pos (by simp), T.self]
theorem takes_no {X : Cx} : Takes X (fun _ _ _ _ => False) := fun u s' h => by
  obtain ⟨a, B, sI, pins, σ, H, cls, d, _, _, _, _, _, _, _, _, h⟩ := h
  exact h.elim
section
variable {P : Program} {w : World} {K : PySem.W.Frag} {mg : Str → Option Value} {base : Heap}
theorem okX {x qual : Str} {st : Stmt} {f : Addr} {fd : FuncData} {N ps : List Str} {k : Nat} {sp : Sp} (F : Fun K x qual st f fd) (S : FnScope N ps (defScope st)) (len : ∀ vs H Q E, sp vs H Q E → vs.length = ps.length)
    (hbody : ∀ (cdv : Value) (A : Around) (outer : List Env) (s : Shared) (H : Hp) (vs : List V) (Q : VK) (E : XK), Room k (A.deeper (envOfC qual (defScope st) s.heap.objs.size f cdv)) → sp vs H Q E →
      ∃ t, PSs (cxOf (L2.CX P w) P w K mg base N qual (defScope st) f cdv A outer s H E) (defBody st) t ∧ t { nx := fun _ H' => Q .non H', rt := Q } (start N vs) H) : FnOk P w K mg base (L2.CX P w) (k + 1) f fd ps sp := by
  obtain ⟨oc, od, kV, doc, pm, an, cdv, ct, osl, rfl, lk, hcd⟩ := F.ex
  exact fn_of lk hcd S len fun A outer s H vs Q E hr hsp => hbody cdv A outer s H vs Q E hr hsp
/-- what a call of something that may raise wishes when it does not -/
theorem passX0 {X : Cx} (hp : X.prog = P := by rfl) (hw : X.w = w := by rfl) : Passes (L2.CX P w) X E0 := fun _ _ _ _ _ _ _ h => by
  obtain ⟨a, B, H', cls, d, _, _, _, _, _, _, _, h⟩ := h
  exact h.elim
theorem raise_m {X : Cx} {W : WX} {x m : Str} {C : Addr} {j : Nat} {p p2 pos pos' : Pos} (T : MalC X.K X.mg x C) (hc : X.calm = true) (tk : Takes X W) (hg : Gl X x := by rfl) (hdb : (x == ("__debug__" : Str)) = false := by decide) :
    PS X (.Raise (some (.Call (.Name x p) [.Constant (.str m) j p2] [] pos)) none pos') (fun _ σ H => W (.ref C) none σ H) :=
  ps_raise hc tk (pmk_own PySem.F.excBase_ValueError T.ex T.g T.kp (raises_own T.sb T.ty) hg hdb)
/-- the promise of a def that may raise -/
def PuE (K : PySem.W.Frag) (f : List Da → Da → Prop) (g : List Da → Value → Prop) : Sp := fun vs H Q E => ∃ B ds, Ex B H ∧ RpA K B ds vs ∧ ((∃ d, f ds d ∧ Goes K B H d Q) ∨ ∃ cls, g ds cls ∧ ∀ H2, Ex H H2 → E cls none H2)
end
section
variable {K : PySem.W.Frag} {B0 H0 B H : Hp} {Γ : Sls} {M : Mus} {ta : TE} {tr : TA} {d : Da} {ds : List Da} {f : List Da → Da → Prop} {g : List Da → Value → Prop}
theorem g_callE {E : XK} (h : EvS K Γ tr ds) (hf : f ds d) : EvG K Γ (tCall (PuE K f g) [] E tr) d := fun σ B H hs e Q k =>
  h σ B H hs e _ fun vs B1 H1 n1 r => by
    rw [List.append_nil]
    exact ⟨B1, ds, n1.ok, r, .inl ⟨d, hf, k.mono n1⟩⟩
theorem g_methE {C : Addr} {m : Str} {ns : List Str} {fs ds : List Da} {E : XK} (ho : EvG K Γ ta (.ins C ns fs)) (h : EvS K Γ tr ds) (hm : m ∉ ns) (hf : f (.ins C ns fs :: ds) d) : EvG K Γ (tMeth C m (PuE K f g) [] E ta tr) d := fun σ B H hs e Q k =>
  ho σ B H hs e _ fun v B1 H1 n1 r => by
    obtain ⟨a, dx, xs, rfl, h1, h2⟩ := id r
    refine ⟨a, dx, _, rfl, n1.ok _ _ h1, lookup_no hm, h σ B1 H1 (hs.mono n1.b) n1.ok _ fun vs B2 H2 n2 r2 => ?_⟩
    rw [List.append_nil]
    exact ⟨B2, .ins C ns fs :: ds, n2.ok, ⟨_, vs, rfl, Rp.mono n2.b _ _ r, r2⟩, .inl ⟨d, hf, k.mono (n1.trans n2)⟩⟩
/-- o.m(..) that raises: any wish behind it -/
theorem bad_meth {C : Addr} {m : Str} {ns : List Str} {fs ds : List Da} {E : XK} {cls : Value} {σ : L2.St} {Q : VK} (ho : EvG K Γ ta (.ins C ns fs)) (h : EvS K Γ tr ds) (hm : m ∉ ns) (hf : g (.ins C ns fs :: ds) cls) (hs : Sl K B Γ σ) (e : Ex B H) (hE : ∀ B2 H2, Nx B H B2 H2 → ∀ H3, Ex H2 H3 → E cls none H3) :
    tMeth C m (PuE K f g) [] E ta tr σ H Q := ho σ B H hs e _ fun v B1 H1 n1 r => by
  obtain ⟨a, dx, xs, rfl, h1, h2⟩ := id r
  refine ⟨a, dx, _, rfl, n1.ok _ _ h1, lookup_no hm, h σ B1 H1 (hs.mono n1.b) n1.ok _ fun vs B2 H2 n2 r2 => ?_⟩
  rw [List.append_nil]
  exact ⟨B2, .ins C ns fs :: ds, n2.ok, ⟨_, vs, rfl, Rp.mono n2.b _ _ r, r2⟩, .inr ⟨cls, hf, hE B2 H2 (n1.trans n2)⟩⟩
theorem g_bits {i : Int} (h : EvG K Γ ta (.int i)) : EvG K Γ (tBits ta) (.int (Builtin.Int.intBits i : Nat)) := fun σ B H hs e Q k => h σ B H hs e _ fun v B1 H1 n1 r => ⟨i, r, (k.mono n1).now n1.ok rfl⟩
theorem g_lstRg {n : Nat} (h : EvG K Γ ta (.int (n : Int))) (hn : n ≤ 1000) : EvG K Γ (tLstRg (tRg1 ta)) (.lst ((List.range n).map fun x : Nat => Da.int (x : Int))) := fun σ B H hs e Q k => h σ B H hs e _ fun v B1 H1 n1 r => by
  refine ⟨(n : Int), r, RgOk.of_le (by omega) (by omega) (by omega) (by omega), fun q hq => (k.mono n1).lst n1.ok ?_ hq⟩
  have e1 : rgV 0 (n : Int) = ((List.range n).map fun x : Nat => (x : Int)).map V.int := by
    unfold rgV
    rw [Int.sub_zero, Int.toNat_natCast, List.map_map]
    apply List.map_congr_left
    intro a _
    rw [Int.zero_add]
    rfl
  have e2 : ((List.range n).map fun x : Nat => Da.int (x : Int)) = ((List.range n).map fun x : Nat => (x : Int)).map Da.int := by
    rw [List.map_map]
    rfl
  rw [e1, e2]
  exact RpA.ints _
/-- list(xs) of data -/
theorem c_listL : RGC K (fun xs H Q => ∃ p ys, xs = [.ref p] ∧ (SqL K H p ys ∨ SqT K H p ys) ∧ ∀ l, H l = none → Q (.ref l) (upd H l (.lst ys))) [.lst ds] (.lst ds) := fun B H vs e r Q k => by
  obtain ⟨x, rfl, a, xs, rfl, h1, h2⟩ := rpa1 r
  exact ⟨a, xs, rfl, .inl (sq1 e h1), fun l hl => k.lst e h2 hl⟩
theorem c_listT : RGC K (fun xs H Q => ∃ p ys, xs = [.ref p] ∧ (SqL K H p ys ∨ SqT K H p ys) ∧ ∀ l, H l = none → Q (.ref l) (upd H l (.lst ys))) [.tup ds] (.lst ds) := fun B H vs e r Q k => by
  obtain ⟨x, rfl, a, xs, rfl, h1, h2⟩ := rpa1 r
  exact ⟨a, xs, rfl, .inr (ex_t e h1), fun l hl => k.lst e h2 hl⟩
/-- tuples joined -/
theorem g_catT {es : List Da} {tb : TE} (ha : EvG K Γ ta (.tup ds)) (hb : EvG K Γ tb (.tup es)) (hl : ds.length + es.length ≤ 1000000) : EvG K Γ (tOp (rCatA K) ta tb) (.tup (ds ++ es)) := g_op ha hb fun B H vx vy e rx ry Q q => by
  obtain ⟨a, xs, rfl, h1, h2⟩ := rx
  obtain ⟨b, ys, rfl, h3, h4⟩ := ry
  refine ⟨a, b, xs, ys, rfl, rfl, ex_t e h1, ex_t e h3, size_ok (by rw [h2.length, h4.length]; exact hl), fun e0 => ?_, fun _ e0 => ?_, fun _ _ p hp => q.tup e (h2.append h4) hp⟩
  · subst e0
    have : ds = [] := List.length_eq_zero_iff.mp h2.length.symm
    subst this
    exact q.now e ⟨b, ys, rfl, h3, h4⟩
  · subst e0
    have : es = [] := List.length_eq_zero_iff.mp h4.length.symm
    subst this
    rw [List.append_nil] at q
    exact q.now e ⟨a, xs, rfl, h1, h2⟩
end
end Fo

set_option maxHeartbeats 2000000
/-! Fo11: several except clauses, some with «as» -/
namespace L2
open PySem PySem.Spec PyProof.Rows
/-- what a clause wishes: with a slot for its name, or without -/
def wOne (o : Option Nat) (ts : Addr → Value → Option Addr → TS) (D : Ends) (cls : Value) (d : Option Addr) (σ : St) (H : Hp) (a : Addr) : Prop := match o with
  | none => ts a cls d D σ H
  | some i => ts a cls d { nx := fun σ' H' => D.nx (σ'.set i none) H', rt := D.rt, bk := fun σ' H' => D.bk (σ'.set i none) H', ct := fun σ' H' => D.ct (σ'.set i none) H' } (σ.set i (some (.ref a))) H
def wManyA (K : PySem.W.Frag) (n : Nat) (Wout : WX) (D : Ends) : List (Value × Option Nat × (Addr → Value → Option Addr → TS)) → WX
  | [] => Wout
  | (c, o, ts) :: r => fun cls d σ H => ∃ b, PySem.W.exmOne K cls c = some b ∧ (b = true → ∀ a, H a = none → σ.length = n → wOne o ts D cls d σ H a) ∧ (b = false → wManyA K n Wout D r cls d σ H)
inductive HdsA (X : Cx) : List ExceptHandler → List (Value × Option Nat × (Addr → Value → Option Addr → TS)) → Prop
  | nil : HdsA X [] []
  | cons {x : Str} {c : Value} {ts : Addr → Value → Option Addr → TS} {b₀ : Stmt} {suite : List Stmt} {np pos' : Pos} {hds : List ExceptHandler} {l : List (Value × Option Nat × (Addr → Value → Option Addr → TS))} (hc : Names X x c)
      (hsu : ∀ (a : Addr) (oe : Obj) (cls : Value) (d : Option Addr) (pn : List (Addr × Obj)), Zc cls d oe → (∃ vs, oe.data = .fields vs) → PSs (X.suite a ((a, oe) :: pn)) (b₀ :: suite) (ts a cls d)) (r : HdsA X hds l) :
      HdsA X (.ExceptHandler (some (.Name x np)) none (b₀ :: suite) pos' :: hds) ((c, none, ts) :: l)
  | consAs {x n : Str} {i : Nat} {c : Value} {ts : Addr → Value → Option Addr → TS} {b₀ : Stmt} {suite : List Stmt} {np pos' : Pos} {hds : List ExceptHandler} {l : List (Value × Option Nat × (Addr → Value → Option Addr → TS))} (hc : Names X x c) (hi : X.N[i]? = some n) (hln : X.env.kindOf n = some .local)
      (hsu : ∀ (a : Addr) (oe : Obj) (cls : Value) (d : Option Addr) (pn : List (Addr × Obj)), Zc cls d oe → (∃ vs, oe.data = .fields vs) → PSs (X.suite a ((a, oe) :: pn)) (b₀ :: suite) (ts a cls d)) (r : HdsA X hds l) :
      HdsA X (.ExceptHandler (some (.Name x np)) (some n) (b₀ :: suite) pos' :: hds) ((c, some i, ts) :: l)
section
variable {X : Cx} {body : List Stmt} {h₀ : ExceptHandler} {hds : List ExceptHandler} {l : List (Value × Option Nat × (Addr → Value → Option Addr → TS))} {pos : Pos} {tb : WX → TS} {Wout : WX}
theorem ps_try_manyA (hs : X.stack = X.env :: X.outer) (hf : X.env.frame = some X.env.locals) (hN : X.N.Nodup) (tk : Takes X Wout)
    (hb : ∀ (W : WX) (pn : List (Addr × Obj)) (xe : Value → Shared → Prop), Takes (X.tr pn xe) W → PassesOwn (model X.prog X.w) X.A X.env xe → PSs (X.tr pn xe) body (tb W))
    (hh : HdsA X (h₀ :: hds) l) : PS X (.Try body (h₀ :: hds) [] [] pos) (fun D σ H => tb (wManyA X.K X.N.length Wout D l) D σ H) := by
  refine ⟨fun pins s σ H D I h => ?_⟩
  have ok := I.ok
  have hfr : X.A.frames = some (X.env :: X.outer) := by rw [ok.frames, hs]
  refine wpAny_Try_except ?_
  refine wpAny_mono ((hb (wManyA X.K X.N.length Wout D l) (X.pn ++ pins) (fun e s₁ => wpAny (model X.prog X.w) X.A (noteFrame e X.env) (fun _ s₂ => wpAny (model X.prog X.w) X.A (setFlight e none) (fun _ s₃ =>
    wpAny (model X.prog X.w) X.A (handleBy e X.env (h₀ :: hds)) (SP X pins D) X.xe s₃) X.xe s₂) X.xe s₁) (fun u s' xx => ?_) PassesOwn.looking).run [] s σ H D (I.toTry _) h) (fun f s1 hsp => ?_) (fun e s1 he => he)
  · -- the catch
    obtain ⟨a, B, sI, pins', σ', H', cls, d, rfl, J', nb, up, sky, na, os, ag, w⟩ := xx
    have J : Inv X pins σ' H' sI := J'.ofTry ok
    have sky' : Sky B (X.env :: X.outer) a (Zc cls d) X.env.locals s'.heap := by rw [← hs]; exact sky
    show wpAny (model X.prog X.w) X.A (noteFrame (.ref a) X.env) _ _ _
    refine Sky.land Zc.steady hfr hf sky' fun h3 fl3 up3 => ?_
    have J3 : Inv X pins σ' H' { s' with heap := h3 } := J.landed nb fl3.1 (up.trans up3) os ag
    obtain ⟨oe3, vs3, he3, hz3, hd3⟩ := fl3.there
    have notFr : ∀ {h : Heap} {o : Obj} {vs : Array Value}, h.FunFrames B (X.env :: X.outer) → h.get? a = some o → o.data = .fields vs → a ∉ frs (X.env :: X.outer) := fun {h o vs} ff e dd hm => by
      obtain ⟨_, o', e', hnf⟩ := ff.mem hm
      rw [e] at e'; cases e'
      exact hnf _ dd
    have nfr := notFr fl3.2.2.1 he3 hd3
    have nL : a ≠ X.env.locals := fun z => nfr (List.mem_filterMap.mpr ⟨X.env, List.mem_cons_self, by rw [hf, z]⟩)
    have nF : a ∉ X.fs := fun hm => by
      obtain ⟨e, he, q⟩ := List.mem_filterMap.mp hm
      exact nfr (List.mem_filterMap.mpr ⟨e, List.mem_cons_of_mem _ he, q⟩)
    have S3 := J3.suite he3 hd3 na nL nF
    have go : ∀ {hds' : List ExceptHandler} {l' : List (Value × Option Nat × (Addr → Value → Option Addr → TS))}, HdsA X hds' l' → wManyA X.K X.N.length Wout D l' cls d σ' H' →
        wpAny (model X.prog X.w) X.A (handleBy (.ref a) X.env hds') (SP X pins D) X.xe { s' with heap := h3 } := by
      intro hds' l' hk
      induction hk with
      | nil =>
        intro w
        refine wpAny_handleBy_nil ?_
        obtain ⟨k1, k2, k3, oe, vs, T, oT, ts', he, hz, hd, h1, hr⟩ := id fl3
        unfold PySem.passOn
        refine wpAny_bind (wpAny_field he hd h1 ?_)
        rw [if_neg (show ¬ ((Value.ref T == Value.none) = true) from by simp)]
        have fin : wpAny (model X.prog X.w) X.A (setFlight (.ref a) X.env.frame) (fun _ s4 => wpAny (model X.prog X.w) X.A (throw (.ref a) : Sem Flow) (SP X pins D) X.xe s4) X.xe { s' with heap := h3 } := by
          rw [hf]
          refine HandSPX.setFlight_upZ fl3 fun h4 hh4 up4 => wpAny_throw (tk _ _ ?_)
          exact ⟨a, B, sI, pins, σ', H', cls, d, rfl, J, nb, (up.trans up3).trans up4, .inr (.inr (by rw [hs]; exact hh4)), na, os, ag, w⟩
        first
          | exact wpAny_bind (wpAny_pure (wpAny_bind fin))
          | exact wpAny_bind fin
      | @cons x c ts b₀ suite np pos' hds2 l2 hc hsu r ih =>
        intro w
        obtain ⟨b, hb1, hyes, hno⟩ := w
        refine wpAny_handleBy_cons (codeAny_handlers_test ?_) (by intro q; cases q)
        have LT : PySem.W.Looks (model X.prog X.w) h3 (typeOf (.ref a)) cls := fun A Q E s k q => wpAny_typeOf_ref (k _ _ he3) (by rw [hz3.1]; exact q)
        have LM := PySem.W.exm_one (M := model X.prog X.w) (J3.kIn) LT hb1
        have test : ∀ {Q : Value → Shared → Prop} {E : Value → Shared → Prop}, Q c { s' with heap := h3 } → wpAny (model X.prog X.w) (X.A.mark (some (.ref a))) (eval (.Name x np) X.env) Q E { s' with heap := h3 } := fun {Q E} q => by
          obtain ⟨hg, hdbg, hm | ⟨hm, hv, hnn⟩⟩ := hc
          · exact ld_glob (X := X.suite a ((a, oe3) :: (X.pn ++ pins))) S3 hg hm q hdbg
          · exact ld_blt (X := X.suite a ((a, oe3) :: (X.pn ++ pins))) S3 hg hm hv q hnn hdbg
        refine test (LM.here ?_)
        cases b with
        | true =>
          refine codeAny_handlers_suite ?_
          refine HandSPX.lands_againZ fl3 fun h4 fl4 up4 => ?_
          have J4 : Inv X pins σ' H' { s' with heap := h4 } := J.landed nb fl4.1 ((up.trans up3).trans up4) os ag
          obtain ⟨oe4, vs4, he4, hz4, hd4⟩ := fl4.there
          have S4 := J4.suite he4 hd4 na nL nF
          refine wpAny_mono ((hsu a oe4 cls d (X.pn ++ pins) hz4 ⟨_, hd4⟩).run [] _ _ H' _ S4 (hyes rfl a na J.len)) (fun f s6 hsp => ?_) (fun _ _ z => False.elim z)
          cases f with
          | next =>
            obtain ⟨σ6, H6, S6, q6⟩ := hsp
            exact ⟨_, _, S6.unsuite ok, q6⟩
          | brk =>
            obtain ⟨σ6, H6, S6, q6⟩ := hsp
            exact ⟨_, _, S6.unsuite ok, q6⟩
          | cont =>
            obtain ⟨σ6, H6, S6, q6⟩ := hsp
            exact ⟨_, _, S6.unsuite ok, q6⟩
          | ret u =>
            obtain ⟨v6, σ6, H6, S6, r6, q6⟩ := hsp
            exact ⟨_, _, _, S6.unsuite ok, r6, q6⟩
        | false =>
          show wpAny _ X.A (handleBy (.ref a) X.env hds2) _ _ _
          exact ih (hno rfl)
      | @consAs x n i c ts b₀ suite np pos' hds2 l2 hc hi hln hsu r ih =>
        intro w
        obtain ⟨b, hb1, hyes, hno⟩ := w
        refine wpAny_handleBy_cons (codeAny_handlers_test ?_) (by intro q; cases q)
        have LT : PySem.W.Looks (model X.prog X.w) h3 (typeOf (.ref a)) cls := fun A Q E s k q => wpAny_typeOf_ref (k _ _ he3) (by rw [hz3.1]; exact q)
        have LM := PySem.W.exm_one (M := model X.prog X.w) (J3.kIn) LT hb1
        have hloc : Loc X.env.scope n := .inl hln
        have test : ∀ {Q : Value → Shared → Prop} {E : Value → Shared → Prop}, Q c { s' with heap := h3 } → wpAny (model X.prog X.w) (X.A.mark (some (.ref a))) (eval (.Name x np) X.env) Q E { s' with heap := h3 } := fun {Q E} q => by
          obtain ⟨hg, hdbg, hm | ⟨hm, hv, hnn⟩⟩ := hc
          · exact ld_glob (X := X.suite a ((a, oe3) :: (X.pn ++ pins))) S3 hg hm q hdbg
          · exact ld_blt (X := X.suite a ((a, oe3) :: (X.pn ++ pins))) S3 hg hm hv q hnn hdbg
        refine test (LM.here ?_)
        cases b with
        | true =>
          refine codeAny_handlers_suite_as ?_
          refine HandSPX.lands_againZ fl3 fun h4 fl4 up4 => ?_
          have J4 : Inv X pins σ' H' { s' with heap := h4 } := J.landed nb fl4.1 ((up.trans up3).trans up4) os ag
          obtain ⟨oe4, vs4, he4, hz4, hd4⟩ := fl4.there
          have S4 := J4.suite he4 hd4 na nL nF
          refine store_ok (X := X.suite a ((a, oe4) :: (X.pn ++ pins))) (v := .ref a) S4 hN hi hloc rfl (fun s5 S5 => ?_) (.inr hln)
          refine wpAny_mono ((hsu a oe4 cls d (X.pn ++ pins) hz4 ⟨_, hd4⟩).run [] s5 _ H' _ S5 (hyes rfl a na J.len)) (fun f s6 hsp => ?_) (fun _ _ z => False.elim z)
          have end_ : ∀ {σ6 : St} {H6 : Hp} {Q : Shared → Prop}, Inv (X.suite a ((a, oe4) :: (X.pn ++ pins))) [] σ6 H6 s6 → (∀ s7, Inv X pins (σ6.set i none) H6 s7 → Q s7) →
              wpAny (model X.prog X.w) X.A (do bindName X.env n .none; unbindBehindTheSuite X.env n pos') (fun _ s7 => Q s7) X.xe s6 := fun {σ6 H6 Q} S6 hq => gone_ok (S6.unsuite ok) hN hi hln hq
          cases f with
          | next =>
            obtain ⟨σ6, H6, S6, q6⟩ := hsp
            exact end_ S6 fun s7 J7 => ⟨_, _, J7, q6⟩
          | brk =>
            obtain ⟨σ6, H6, S6, q6⟩ := hsp
            exact end_ S6 fun s7 J7 => ⟨_, _, J7, q6⟩
          | cont =>
            obtain ⟨σ6, H6, S6, q6⟩ := hsp
            exact end_ S6 fun s7 J7 => ⟨_, _, J7, q6⟩
          | ret u =>
            obtain ⟨v6, σ6, H6, S6, r6, q6⟩ := hsp
            exact end_ S6 fun s7 J7 => ⟨_, _, _, J7, r6, q6⟩
        | false =>
          show wpAny _ X.A (handleBy (.ref a) X.env hds2) _ _ _
          exact ih (hno rfl)
    exact go hh w
  · cases f with
    | next =>
      obtain ⟨σ', H', J', q⟩ := hsp
      exact wpAny_execs_nil ⟨σ', H', J'.ofTry ok, q⟩
    | brk =>
      obtain ⟨σ', H', J', q⟩ := hsp
      exact ⟨σ', H', J'.ofTry ok, q⟩
    | cont =>
      obtain ⟨σ', H', J', q⟩ := hsp
      exact ⟨σ', H', J'.ofTry ok, q⟩
    | ret u =>
      obtain ⟨v, σ', H', J', r, q⟩ := hsp
      exact ⟨v, σ', H', J'.ofTry ok, r, q⟩
end
end L2

/-! Fo12: defs that raise one of two own classes: one without __init__, one that keeps a reason -/
namespace Fo
open PySem PySem.Spec PyProof.Rows L2
open Evl (ixN_nat)
variable [Nm]
inductive Ra where
  | mal
  | ref (r : Str)
/-- the promise of C.__init__(self, reason): self.reason = reason -/
def spRef (K : PySem.W.Frag) (C : Addr) : Sp := fun vs H Q _ => ∃ (a : Addr) (v : V), vs = [.ref a, v] ∧ H a = some (exo a C none) ∧ ∀ dx, H dx = none → dx ≠ a → Q .non (upd (upd H dx (exd dx [("reason", v)])) a (exo a C (some dx)))
structure RefC (P : Program) (w : World) (K : PySem.W.Frag) (mg : Str → Option Value) (base : Heap) (C : Addr) : Prop where
  x : OexC K C
  g : mg "Refused" = some (.ref C)
  no : PySem.W.findIn K (.ref C) "reason" = some none
  ini : ∃ fI fd, PySem.W.findIn K (.ref C) "__init__" = some (some (.ref fI)) ∧ PySem.W.typeIn K (.ref fI) = some (.type "function") ∧ FnOk P w K mg base CX0 1 fI fd ["self", "reason"] (spRef K C) ∧ Binds K fd ["self", "reason"] []
/-- what is wished behind an exception -/
def RaE (CM CR : Addr) (b : Ra) (H : Hp) (E : XK) : Prop := match b with
  | .mal => ∀ H2, Ex H H2 → E (.ref CM) none H2
  | .ref r => ∀ dd H2, Ex H H2 → H2 dd = some (.xd [("reason", .str r)]) → E (.ref CR) (some dd) H2
theorem RaE.mono {CM CR : Addr} {b : Ra} {H H2 : Hp} {E : XK} (h : RaE CM CR b H E) (e : Ex H H2) : RaE CM CR b H2 E := by
  cases b with
  | mal => exact fun H3 e3 => h H3 (e.trans e3)
  | ref r => exact fun dd H3 e3 => h dd H3 (e.trans e3)
section
variable {P : Program} {w : World} {K : PySem.W.Frag} {mg : Str → Option Value} {base : Heap}
theorem ref_made {C CM : Addr} {r : Str} {σ : L2.St} {H : Hp} {W : XK} (h : RaE CM C (.ref r) H W) : tMkO C (spRef K C) [] (tCons (tC (.str r)) tNil) σ H W := by
  refine ⟨by show 1 ≤ 1000; decide, fun a ha => ⟨a, .str r, rfl, upd_same, fun dx hdx hne => ⟨rfl, dx, [("reason", .str r)], upd_same, by rw [upd_ne hne]; exact upd_same, ?_, ?_⟩⟩⟩
  · rw [upd_ne hne] at hdx
    exact hdx
  · rw [upd_ne hne] at hdx
    refine h dx _ (Ex.of fun b o q => ?_) upd_same
    have h1 : b ≠ dx := ne_of_none q hdx
    have h2 : b ≠ a := ne_of_none q ha
    rw [upd_ne h1, del_ne h2, upd_ne h2, upd_ne h1, upd_ne h2]
    exact q
/-- raise Refused('r') -/
theorem raise_r {X : Cx} {W : WX} {C : Addr} {r : Str} {j : Nat} {p p2 pos pos' : Pos} (T : RefC X.prog X.w X.K X.mg X.base C) (hc : X.calm = true) (hr : Room 2 X.A) (tk : Takes X W) (hg : Gl X "Refused" := by rfl) :
    PS X (.Raise (some (.Call (.Name "Refused" p) [.Constant (.str r) j p2] [] pos)) none pos') (fun _ σ H => tMkO C (spRef X.K C) [] (tCons (tC (.str r)) tNil) σ H fun cls d H' => W cls d σ H') := by
  obtain ⟨fI, fd, i1, i2, i3, i4⟩ := T.ini
  exact ps_raise hc tk (pmk_oex T.x i1 i2 i3 hr i4 .nil pass0 hg T.g (pa_cons pe_str pa_nil))
def PuR (K : PySem.W.Frag) (CM CR : Addr) (f : List Da → Da → Prop) (g : List Da → Ra → Prop) : Sp := fun vs H Q E => ∃ B ds, Ex B H ∧ RpA K B ds vs ∧ ((∃ d, f ds d ∧ Goes K B H d Q) ∨ ∃ b, g ds b ∧ RaE CM CR b H E)
def PuIR (K : PySem.W.Frag) (CM CR C : Addr) (f : List Da → List Str → List Da → Prop) (g : List Da → Ra → Prop) : Sp := fun vs H Q E => ∃ B ds x dx ws, vs = .ref x :: ws ∧ Ex B H ∧ B x = none ∧ H x = some (.ins C dx []) ∧ RpA K B ds ws ∧
  ((∃ ns fs, f ds ns fs ∧ ∀ B2 H2 ys, Ex B B2 → Ex B2 H2 → B2 x = none → Ex (delH H x) H2 → (∀ a, B a = none → NC H a → B2 a = none) → H2 x = some (.ins C dx (ns.zip ys)) → RpA K B2 fs ys → Q .non H2) ∨ ∃ b, g ds b ∧ RaE CM CR b H E)
end
section
variable {K : PySem.W.Frag} {B H : Hp} {Γ : Sls} {tr : TA} {d : Da} {ds : List Da} {f : List Da → Da → Prop} {g : List Da → Ra → Prop} {CM CR C : Addr} {E : XK} {σ : L2.St} {Q : VK}
theorem g_callR (h : EvS K Γ tr ds) (hf : f ds d) : EvG K Γ (tCall (PuR K CM CR f g) [] E tr) d := fun σ B H hs e Q k =>
  h σ B H hs e _ fun vs B1 H1 n1 r => by
    rw [List.append_nil]
    exact ⟨B1, ds, n1.ok, r, .inl ⟨d, hf, k.mono n1⟩⟩
theorem bad_callR {b : Ra} (h : EvS K Γ tr ds) (hg : g ds b) (hs : Sl K B Γ σ) (e : Ex B H) (hE : RaE CM CR b H E) : tCall (PuR K CM CR f g) [] E tr σ H Q :=
  h σ B H hs e _ fun vs B1 H1 n1 r => by
    rw [List.append_nil]
    exact ⟨B1, ds, n1.ok, r, .inr ⟨b, hg, hE.mono n1.h⟩⟩
theorem g_makeR {f : List Da → List Str → List Da → Prop} {ns : List Str} {fs : List Da} (h : EvS K Γ tr ds) (hf : f ds ns fs) : EvG K Γ (tMake C (PuIR K CM CR C f g) [] E tr) (.ins C ns fs) := fun σ B H hs e Q k =>
  h σ B H hs e _ fun ws B1 H1 n1 rs x dx hx hdx hne => by
    have hHx : ∀ a o, a ≠ x → a ≠ dx → H1 a = some o → upd (upd H1 dx (.own x)) x (.ins C dx []) a = some o := fun a o h1 h2 h3 => by
      rw [upd_ne h1, upd_ne h2]
      exact h3
    have e0 : Ex H1 (upd (upd H1 dx (.own x)) x (.ins C dx [])) := Ex.of fun a o q => hHx a o (ne_of_none q hx) (ne_of_none q hdx) q
    have e1 := n1.ok.trans e0
    refine ⟨B1, ds, x, dx, ws, by rw [List.append_nil], e1, fresh_back n1.ok hx, upd_same, rs, .inl ⟨ns, fs, hf, fun B2 H2 ys q1 q2 q3 q4 q5 q6 q7 => ⟨rfl, ?_⟩⟩⟩
    have n2 : Nx B1 H1 B2 H2 := ⟨q2, q1, (del_of fun a o h => ⟨ne_of_none h hx, hHx a o (ne_of_none h hx) (ne_of_none h hdx) h⟩).trans q4, fun a h1 h2 => q5 a h1 (h2.ex e0)⟩
    exact (k.mono n1) _ _ _ (n2.frz hx q3 q6) ⟨x, dx, ys, rfl, upd_same, RpA.mono (.new q3) _ _ q7⟩
theorem bad_makeR {f : List Da → List Str → List Da → Prop} {b : Ra} (h : EvS K Γ tr ds) (hg : g ds b) (hs : Sl K B Γ σ) (e : Ex B H) (hE : RaE CM CR b H E) : tMake C (PuIR K CM CR C f g) [] E tr σ H Q :=
  h σ B H hs e _ fun ws B1 H1 n1 rs x dx hx hdx hne => by
    have hHx : ∀ a o, a ≠ x → a ≠ dx → H1 a = some o → upd (upd H1 dx (.own x)) x (.ins C dx []) a = some o := fun a o h1 h2 h3 => by
      rw [upd_ne h1, upd_ne h2]
      exact h3
    have e0 : Ex H1 (upd (upd H1 dx (.own x)) x (.ins C dx [])) := Ex.of fun a o q => hHx a o (ne_of_none q hx) (ne_of_none q hdx) q
    have e1 := n1.ok.trans e0
    exact ⟨B1, ds, x, dx, ws, by rw [List.append_nil], e1, fresh_back n1.ok hx, upd_same, rs, .inr ⟨b, hg, hE.mono (n1.h.trans e0)⟩⟩
end
end Fo

/-! Fo13: len of an instance by its class's own __len__; statements that end in one of many ways -/
namespace Fo
open PySem PySem.Spec PyProof.Rows L2
open Evl (ixN_nat)
variable [Nm]
section
variable {M : Model} {A : Around} {E : Value → Shared → Prop} {s : Shared} {K : PySem.W.Frag} {x C f : Addr} {ox : Obj} {od : Option Obj}
theorem special_fn {name : Str} {Q : Option Value → Shared → Prop} (X : K.In s.heap) (I : PySem.W.InstAt s.heap x ox C od) (hs : PySem.W.findIn K (.ref C) name = some (some (.ref f))) (hf : PySem.W.isFn K (.ref f) = true)
    (h : wpAny M A (call (.ref f) [.ref x]) (fun v => Q (some v)) E s) : wpAny M A (callSpecial? (.ref x) name) Q E s := by
  unfold callSpecial?
  have hsp : ∀ {Q' : Option Value → Shared → Prop}, Q' (some (.ref f)) s → wpAny M A (specialOf (.ref x) name) Q' E s := fun q => by
    unfold specialOf
    exact wpAny_bind (I.type.here ((PySem.W.looks_findIn X hs).here q))
  refine wpAny_bind (hsp ?_)
  exact wpAny_holding (wpAny_bind ((PySem.W.bind_fn X _ (beq_iff_eq.mp hf)).here (wpAny_bind (wpAny_mono h (fun v s' h' => wpAny_pure h') fun _ _ e => e))))
end
structure LenC (K : PySem.W.Frag) (C f : Addr) : Prop where
  len : PySem.W.findIn K (.ref C) "__len__" = some (some (.ref f))
  fn : PySem.W.isFn K (.ref f) = true
def rLenO (K : PySem.W.Frag) (C : Addr) (sp : Sp) (E : XK) : List V → Hp → VK → Prop := fun vs H Q => ∃ a dx fs, vs = [.ref a] ∧ H a = some (.ins C dx fs) ∧ sp [.ref a] H (fun v H' => ∃ n : Nat, v = .int (n : Int) ∧ n < 2 ^ 62 ∧ Q (.int (n : Int)) H') E
section
variable {X : Cx} {CX : CXT} {C f : Addr} {fd : FuncData} {ps : List Str} {sp : Sp} {E : XK} {n : Nat}
theorem cr_lenO (F : FnOk X.prog X.w X.K X.mg X.base CX n f fd ps sp) (q : LenC X.K C f) (hb : Binds X.K fd ps []) (hx : Passes CX X E) (hr : Room (n + 1) X.A) : CallR X (.builtin "len") (rLenO X.K C sp E) := by
  intro pins s σ H vs us Q I r h
  obtain ⟨a, dx, fs, rfl, ha, hsp⟩ := h
  rw [Vals.ref1 r]
  obtain ⟨mA, J, _⟩ := ins_get I.hok ha
  obtain ⟨od, J, _⟩ := J.look
  have KX := I.kIn
  refine Calls.call_function_entry kind_len plain_len entry_len (args_len1 _) ?_
  unfold Builtin.«len»
  refine wpAny_bind (m := oneArg "len" _) (wpAny_pure ?_)
  refine wpAny_bind (m := callSpecial? (.ref a) (Str.ofString "__len__")) (special_fn KX J q.len q.fn ?_)
  have r2 : Vals [V.ref a] [Value.ref a] := .cons rfl .nil
  have hl := F.len _ _ _ _ hsp
  refine wpAny_call (codeAny_mono (F.run X.A.in1 X.stack s H ⟨[.ref a], []⟩ [.ref a] [.ref a] _ E hr.in1 I.env0.in1 (by
    have := hb s [.ref a] I.kIn (by simpa using hl)
    simpa using this) r2 hsp) fun r s' hq => ?_)
  cases r with
  | error e => exact hx pins σ H s e s' I hq
  | ok fl =>
    cases fl with
    | ret w =>
      obtain ⟨z, H', I', rz, n, ez, hn, hq2⟩ := I.after hq
      subst ez
      obtain ⟨t, rfl⟩ := rz
      refine wpAny_bind (wpAny_holding (wpAny_pure ?_))
      refine wpAny_bind (wpAny_letGo ?_)
      show wpAny _ _ (if ((n : Nat) : Int) < 0 then _ else _) _ _ _
      rw [if_neg (by omega)]
      show wpAny _ _ (if ((n : Nat) : Int) ≥ 2 ^ 63 then _ else _) _ _ _
      rw [if_neg (by omega)]
      exact wpAny_bind (wpAny_mkInt (wpAny_pure ⟨_, rfl, .int (n : Int), H', I'.tok _, ⟨_, rfl⟩, hq2⟩))
    | next => exact False.elim hq
    | brk => exact False.elim hq
    | cont => exact False.elim hq
end
section
variable {K : PySem.W.Frag} {B0 H0 B H : Hp} {Γ : Sls} {M : Mus} {ta te : TE} {tr : TA} {d : Da} {t u tu : TS} {i j : Nat}
theorem c_lenO {C : Addr} {ns : List Str} {fs : List Da} {f : List Da → Da → Prop} {E : XK} {n : Nat} (hf : f [.ins C ns fs] (.int (n : Int))) (hn : n < 2 ^ 62) : RGC K (rLenO K C (Pu K f) E) [.ins C ns fs] (.int (n : Int)) := fun B H vs e r Q k => by
  obtain ⟨x, rfl, rx⟩ := rpa1 r
  obtain ⟨a, dx, xs, rfl, h1, h2⟩ := id rx
  refine ⟨a, dx, _, rfl, e _ _ h1, B, [.ins C ns fs], _, e, ⟨_, _, rfl, rx, rfl⟩, hf, fun v B2 H2 n2 rv => ?_⟩
  obtain rfl : v = .int (n : Int) := rv
  exact ⟨n, rfl, hn, k _ B2 H2 n2 rfl⟩
/-! ### one of many ends -/
def EvN (K : PySem.W.Frag) (B0 H0 : Hp) (Γ : Sls) (M : Mus) (ts : TS) (post : Sls → Mus → Prop) : Prop :=
  ∀ σ B H D, Sl K B Γ σ → MuS K H0 B H σ M → Nx B0 H0 B H → (∀ Γ2 M2 σ2 B2 H2, post Γ2 M2 → Ex B B2 → Sl K B2 Γ2 σ2 → MuS K H0 B2 H2 σ2 M2 → Nx B0 H0 B2 H2 → D.nx σ2 H2) → ts D σ H
theorem n_seq {post : Sls → Mus → Prop} {o : Out} (h : EvN K B0 H0 Γ M t post) (hk : ∀ Γ2 M2, post Γ2 M2 → EvT K B0 H0 Γ2 M2 u o) : EvT K B0 H0 Γ M (tSeq t u) o := fun σ B H D hs hm n f =>
  h σ B H _ hs hm n fun Γ2 M2 σ2 B2 H2 p e hs2 hm2 n2 => hk Γ2 M2 p σ2 B2 H2 D hs2 hm2 n2 (f.mono e)
theorem n_of {Γ1 : Sls} {M1 : Mus} {post : Sls → Mus → Prop} (h : EvT K B0 H0 Γ M t (.nx Γ1 M1)) (hp : post Γ1 M1) : EvN K B0 H0 Γ M t post := fun σ B H D hs hm n k =>
  h σ B H D hs hm n fun σ2 B2 H2 e hs2 hm2 n2 => k Γ1 M1 σ2 B2 H2 hp e hs2 hm2 n2
theorem n_asg {P1 : Da → Mus → Prop} {post : Sls → Mus → Prop} (h : EvX K B0 H0 Γ M te P1) (hk : ∀ d M1, P1 d M1 → (∀ q ∈ M1, q.1 ≠ i) ∧ post (Γ.set i (some d)) M1) : EvN K B0 H0 Γ M (tAsg te (gName i)) post := fun σ B H D hs hm n k =>
  h σ B H hs hm n _ fun d M1 v B2 H2 p g2 r => by
    obtain ⟨h1, h2⟩ := hk d M1 p
    exact k _ M1 _ B2 H2 h2 g2.e ((hs.mono g2.e).set i r) (g2.m.set h1) g2.n
theorem n_if {b : Bool} {tt : TT} {t1 t2 : TS} {post : Sls → Mus → Prop} (h : EvB K Γ tt b) (h1 : b = true → EvN K B0 H0 Γ M t1 post) (h2 : b = false → EvN K B0 H0 Γ M t2 post) : EvN K B0 H0 Γ M (tIfS tt t1 t2) post := fun σ B H D hs hm n k =>
  z_if h hs n.ok (fun hb B2 H2 n2 hs2 => h1 hb σ B2 H2 D hs2 (hm.nx n2) (n.trans n2) fun Γ3 M3 σ3 B3 H3 p e => k Γ3 M3 σ3 B3 H3 p (n2.b.trans e)) (fun hb B2 H2 n2 hs2 => h2 hb σ B2 H2 D hs2 (hm.nx n2) (n.trans n2) fun Γ3 M3 σ3 B3 H3 p e => k Γ3 M3 σ3 B3 H3 p (n2.b.trans e))
/-- for turn in range(e), e with draws; what holds by the turn is told by I -/
theorem n_forX {P1 : Da → Mus → Prop} {post : Sls → Mus → Prop} {I : Nat → Sls → Mus → Prop} (h : EvX K B0 H0 Γ M ta P1) (hd : ∀ d M1, P1 d M1 → ∃ m : Nat, d = .int (m : Int) ∧ m ≤ 1000 ∧ I 0 Γ M1 ∧ ∀ Γ2 M2, I m Γ2 M2 → post Γ2 M2)
    (hj : ∀ i Γ2 M2, I i Γ2 M2 → ∀ q ∈ M2, q.1 ≠ j) (hb : ∀ i Γ2 M2, i < 1000 → I i Γ2 M2 → EvN K B0 H0 (Γ2.set j (some (.int (i : Int)))) M2 tu (I (i + 1))) : EvN K B0 H0 Γ M (tFor (iRng1 (tCons ta tNil)) (gName j) tu) post := fun σ B H D hs hm n k => by
  refine h σ B H hs hm n _ fun d M1 v B2 H2 p g2 r => ?_
  obtain ⟨m, rfl, hm1, hI, hpost⟩ := hd d M1 p
  obtain rfl : v = .int (m : Int) := r
  refine ⟨(m : Int), rfl, by omega, by omega, ?_⟩
  rw [Int.toNat_natCast]
  have w : WalkD K (Itr 0 m) B2 (rng 0 m) := walk_rng
  have hlr := rng_length 0 m
  refine ⟨fun i c σ' H' => c = m - i ∧ i ≤ m ∧ ∃ Γ' M' B', Ex B2 B' ∧ I i Γ' M' ∧ Sl K B' Γ' σ' ∧ MuS K H0 B' H' σ' M' ∧ Nx B0 H0 B' H', ⟨m, by omega, by omega, Γ, M1, B2, .refl _, hI, hs.mono g2.e, g2.m, g2.n⟩, ?_⟩
  rintro i c σ' H' ⟨rfl, hi, Γ', M', B', e1, hI', hs', hm', n'⟩
  by_cases hlt : i < m
  · refine .inr ⟨w.goes i H' (by rw [hlr]; exact hlt) (e1.trans n'.ok), fun σ3 H3 => ∃ Γ' M' B', Ex B2 B' ∧ I (i + 1) Γ' M' ∧ Sl K B' Γ' σ3 ∧ MuS K H0 B' H3 σ3 M' ∧ Nx B0 H0 B' H3, fun σ3 H3 z => ⟨m - (i + 1), by omega, rfl, hlt, z⟩, fun x H3 y => ?_⟩
    obtain ⟨B3, n3, rx⟩ := w.yld i B' H' x H3 (.int (i : Int)) (by
      unfold rng
      rw [List.getElem?_map, List.getElem?_range hlt]
      simp) e1 n'.ok y
    exact hb i Γ' M' (by omega) hI' _ B3 H3 _ ((hs'.mono n3.b).set j rx) ((hm'.nx n3).set (hj i Γ' M' hI')) (n'.trans n3) fun Γ4 M4 σ4 B4 H4 p e4 hs4 hm4 n4 => ⟨Γ4, M4, B4, e1.trans (n3.b.trans e4), p, hs4, hm4, n4⟩
  · have ei : i = m := by omega
    subst ei
    refine .inl ⟨by
      have := w.stops H' (e1.trans n'.ok)
      rw [hlr] at this
      exact this, k Γ' M' σ' B' H' (hpost Γ' M' hI') (g2.e.trans e1) hs' hm' n'⟩
end
end Fo

/-! Fo14: one judgement for statements that end in many ways (EvP) and one for expressions that draw (EvY), over data and lists of one's own by their addresses -/
namespace Fo
open PySem PySem.Spec PyProof.Rows L2
open Evl (ixN_nat)
variable [Nm]
abbrev Mu := List (Option Nat × Addr × List Da)
/-- lists of one's own: apart from what stood, from the data and from each other -/
def MuH (K : PySem.W.Frag) (H0 B H : Hp) : Mu → Prop
  | [] => True
  | m :: r => (H0 m.2.1 = none ∧ B m.2.1 = none ∧ (∃ xs, H m.2.1 = some (.lst xs) ∧ RpA K B m.2.2 xs) ∧ ∀ q ∈ r, q.2.1 ≠ m.2.1) ∧ MuH K H0 B H r
structure Stt (K : PySem.W.Frag) (B0 H0 : Hp) (Γ : Sls) (M : Mu) (σ : L2.St) (B H : Hp) : Prop where
  s : Sl K B Γ σ
  h : MuH K H0 B H M
  l : ∀ m ∈ M, ∀ k, m.1 = some k → σ[k]? = some (some (.ref m.2.1))
  n : Nx B0 H0 B H
inductive Ou where
  | nx (Γ : Sls) (M : Mu)
  | rt (d : Da) (M : Mu)
  | bk (Γ : Sls) (M : Mu)
  | ct (Γ : Sls) (M : Mu)
def FinO (K : PySem.W.Frag) (B0 H0 B : Hp) (D : Ends) : Ou → Prop
  | .nx Γ M => ∀ σ2 B2 H2, Ex B B2 → Stt K B0 H0 Γ M σ2 B2 H2 → D.nx σ2 H2
  | .rt d M => ∀ v B2 H2, Ex B B2 → MuH K H0 B2 H2 M → Nx B0 H0 B2 H2 → Rp K B2 d v → D.rt v H2
  | .bk Γ M => ∀ σ2 B2 H2, Ex B B2 → Stt K B0 H0 Γ M σ2 B2 H2 → D.bk σ2 H2
  | .ct Γ M => ∀ σ2 B2 H2, Ex B B2 → Stt K B0 H0 Γ M σ2 B2 H2 → D.ct σ2 H2
def EvP (K : PySem.W.Frag) (B0 H0 : Hp) (Γ : Sls) (M : Mu) (ts : TS) (post : Ou → Prop) : Prop :=
  ∀ σ B H D, Stt K B0 H0 Γ M σ B H → (∀ o, post o → FinO K B0 H0 B D o) → ts D σ H
def EvY (K : PySem.W.Frag) (B0 H0 : Hp) (Γ : Sls) (M : Mu) (te : TE) (post : Da → Mu → Prop) : Prop :=
  ∀ σ B H, Stt K B0 H0 Γ M σ B H → ∀ Q : VK, (∀ d M' v B2 H2, post d M' → Ex B B2 → Stt K B0 H0 Γ M' σ B2 H2 → Rp K B2 d v → Q v H2) → te σ H Q
def EvYB (K : PySem.W.Frag) (B0 H0 : Hp) (Γ : Sls) (M : Mu) (tt : TT) (post : Bool → Mu → Prop) : Prop :=
  ∀ σ B H, Stt K B0 H0 Γ M σ B H → ∀ Q : Bool → Hp → Prop, (∀ b M' B2 H2, post b M' → Ex B B2 → Stt K B0 H0 Γ M' σ B2 H2 → Q b H2) → tt σ H Q
def EvYS (K : PySem.W.Frag) (B0 H0 : Hp) (Γ : Sls) (M : Mu) (ta : TA) (post : List Da → Mu → Prop) : Prop :=
  ∀ σ B H, Stt K B0 H0 Γ M σ B H → ∀ Q : List V → Hp → Prop, (∀ ds M' vs B2 H2, post ds M' → Ex B B2 → Stt K B0 H0 Γ M' σ B2 H2 → RpA K B2 ds vs → Q vs H2) → ta σ H Q
def EvYI (K : PySem.W.Frag) (B0 H0 : Hp) (Γ : Sls) (M : Mu) (wi : TI) (post : List Da → Mu → Prop) : Prop :=
  ∀ σ B H, Stt K B0 H0 Γ M σ B H → ∀ R : It → Hp → Prop, (∀ ds M' J B2 H2, post ds M' → Ex B B2 → Stt K B0 H0 Γ M' σ B2 H2 → WalkD K J B2 ds → R J H2) → wi σ H R
section
variable {K : PySem.W.Frag} {B0 H0 B H B2 H2 B3 H3 : Hp} {Γ Γ1 Γ2 : Sls} {M M1 M2 : Mu} {te ta tb : TE} {tt ttb : TT} {t u tu t1 t2 : TS} {d d1 d2 : Da} {σ σ2 : L2.St} {i j k : Nat} {ds : List Da} {r : R2} {tr : TA} {post : Ou → Prop}
theorem MuH.nx : ∀ {M : Mu}, MuH K H0 B H M → Nx B H B2 H2 → MuH K H0 B2 H2 M
  | [], _, _ => trivial
  | _ :: _, ⟨⟨h1, h2, ⟨xs, h3, h4⟩, h5⟩, hr⟩, n => ⟨⟨h1, (n.apart h2 h3).1, ⟨xs, (n.apart h2 h3).2, RpA.mono n.b _ _ h4⟩, h5⟩, hr.nx n⟩
theorem MuH.updH {l : Addr} {o : HO} : ∀ {M : Mu}, MuH K H0 B H M → (∀ q ∈ M, q.2.1 ≠ l) → MuH K H0 B (upd H l o) M
  | [], _, _ => trivial
  | m :: r, ⟨⟨h1, h2, ⟨xs, h3, h4⟩, h5⟩, hr⟩, n => ⟨⟨h1, h2, ⟨xs, by rw [upd_ne (n m (by simp))]; exact h3, h4⟩, h5⟩, hr.updH fun q hq => n q (List.mem_cons_of_mem _ hq)⟩
theorem MuH.updB {l : Addr} {o : HO} (hl : B l = none) : ∀ {M : Mu}, MuH K H0 B H M → (∀ q ∈ M, q.2.1 ≠ l) → MuH K H0 (upd B l o) H M
  | [], _, _ => trivial
  | m :: r, ⟨⟨h1, h2, ⟨xs, h3, h4⟩, h5⟩, hr⟩, n => ⟨⟨h1, by rw [upd_ne (n m (by simp))]; exact h2, ⟨xs, h3, RpA.mono (.new hl) _ _ h4⟩, h5⟩, hr.updB hl fun q hq => n q (List.mem_cons_of_mem _ hq)⟩
theorem MuH.fresh {l : Addr} : ∀ {M : Mu}, MuH K H0 B H M → H l = none → ∀ q ∈ M, q.2.1 ≠ l
  | [], _, _, q, hq => nomatch hq
  | m :: r, ⟨⟨h1, h2, ⟨xs, h3, h4⟩, h5⟩, hr⟩, n, q, hq => by
    rcases List.mem_cons.mp hq with e | hq
    · subst e
      intro z
      rw [z, n] at h3
      cases h3
    · exact hr.fresh n q hq
/-- entry j of the lists -/
theorem MuH.at : ∀ {M : Mu} {j : Nat} {o : Option Nat} {l : Addr} {ds : List Da}, MuH K H0 B H M → M[j]? = some (o, l, ds) → H0 l = none ∧ B l = none ∧ ∃ xs, H l = some (.lst xs) ∧ RpA K B ds xs
  | [], _, _, _, _, _, e => by simp at e
  | m :: r, 0, o, l, ds, ⟨⟨h1, h2, h3, h5⟩, hr⟩, e => by
    cases (Option.some.inj e : m = _)
    exact ⟨h1, h2, h3⟩
  | m :: r, j + 1, o, l, ds, ⟨_, hr⟩, e => hr.at (j := j) e
theorem MuH.put {xs : List V} {ds2 : List Da} : ∀ {M : Mu} {j : Nat} {o : Option Nat} {l : Addr} {ds : List Da}, MuH K H0 B H M → M[j]? = some (o, l, ds) → RpA K B ds2 xs → MuH K H0 B (upd H l (.lst xs)) (M.set j (o, l, ds2))
  | [], _, _, _, _, _, e, _ => by simp at e
  | m :: r, 0, o, l, ds, ⟨⟨h1, h2, h3, h5⟩, hr⟩, e, rr => by
    cases (Option.some.inj e : m = _)
    exact ⟨⟨h1, h2, ⟨xs, upd_same, rr⟩, h5⟩, hr.updH h5⟩
  | m :: r, j + 1, o, l, ds, ⟨⟨h1, h2, ⟨ys, h3, h4⟩, h5⟩, hr⟩, e, rr => by
    have hm : (o, l, ds) ∈ r := List.mem_of_getElem? (i := j) e
    have hne : m.2.1 ≠ l := fun z => h5 _ hm z.symm
    refine ⟨⟨h1, h2, ⟨ys, by rw [upd_ne hne]; exact h3, h4⟩, fun q hq => ?_⟩, hr.put (j := j) e rr⟩
    rcases List.mem_or_eq_of_mem_set hq with hq | hq
    · exact h5 q hq
    · subst hq
      exact Ne.symm hne
theorem MuH.drop : ∀ {M : Mu} {j : Nat}, MuH K H0 B H M → MuH K H0 B H (M.eraseIdx j)
  | [], _, _ => trivial
  | m :: r, 0, ⟨_, hr⟩ => hr
  | m :: r, j + 1, ⟨⟨h1, h2, h3, h5⟩, hr⟩ => ⟨⟨h1, h2, h3, fun q hq => h5 q (List.mem_of_mem_eraseIdx hq)⟩, hr.drop (j := j)⟩
theorem MuH.apart : ∀ {M : Mu} {j : Nat} {o : Option Nat} {l : Addr} {ds : List Da}, MuH K H0 B H M → M[j]? = some (o, l, ds) → ∀ q ∈ M.eraseIdx j, q.2.1 ≠ l
  | [], _, _, _, _, _, e, q, hq => by simp at e
  | m :: r, 0, o, l, ds, ⟨⟨h1, h2, h3, h5⟩, hr⟩, e, q, hq => by
    cases (Option.some.inj e : m = _)
    exact h5 q hq
  | m :: r, j + 1, o, l, ds, ⟨⟨h1, h2, h3, h5⟩, hr⟩, e, q, hq => by
    rcases List.mem_cons.mp hq with e2 | hq
    · subst e2
      exact fun z => h5 _ (List.mem_of_getElem? (i := j) e) z.symm
    · exact hr.apart (j := j) e q hq
theorem Stt.nx (s : Stt K B0 H0 Γ M σ B H) (n : Nx B H B2 H2) : Stt K B0 H0 Γ M σ B2 H2 := ⟨s.s.mono n.b, s.h.nx n, s.l, s.n.trans n⟩
theorem Stt.ok (s : Stt K B0 H0 Γ M σ B H) : Ex B H := s.n.ok
theorem Stt.le (s : Stt K B0 H0 Γ M σ B H) (l : le Γ Γ2) : Stt K B0 H0 Γ2 M σ B H := ⟨s.s.le l, s.h, s.l, s.n⟩
theorem Stt.set {v : V} (s : Stt K B0 H0 Γ M σ B H) (r : Rp K B d v) (hi : ∀ m ∈ M, m.1 ≠ some i) : Stt K B0 H0 (Γ.set i (some d)) M (σ.set i (some v)) B H :=
  ⟨s.s.set i r, s.h, fun m hm k hk => by rw [List.getElem?_set_ne (fun e => hi m hm (by rw [hk, e]))]; exact s.l m hm k hk, s.n⟩
theorem FinO.mono {D : Ends} {o : Ou} (f : FinO K B0 H0 B D o) (e : Ex B B2) : FinO K B0 H0 B2 D o := by
  cases o with
  | nx Γ M => exact fun σ2 B3 H2 e2 => f σ2 B3 H2 (e.trans e2)
  | rt d M => exact fun v B3 H2 e2 => f v B3 H2 (e.trans e2)
  | bk Γ M => exact fun σ2 B3 H2 e2 => f σ2 B3 H2 (e.trans e2)
  | ct Γ M => exact fun σ2 B3 H2 e2 => f σ2 B3 H2 (e.trans e2)
theorem h0_none {l : Addr} (n : Nx B0 H0 B H) (h : H l = none) : H0 l = none := n.h.s l h
/-! ### expressions -/
theorem y_pure (h : EvG K Γ te d) : EvY K B0 H0 Γ M te (fun d' M' => d' = d ∧ M' = M) := fun σ B H s Q q =>
  h σ B H s.s s.ok _ fun v B2 H2 n2 r => q d M v B2 H2 ⟨rfl, rfl⟩ n2.b (s.nx n2) r
theorem y_of {P : Da → Mu → Prop} (h : EvG K Γ te d) (p : P d M) : EvY K B0 H0 Γ M te P := fun σ B H s Q q =>
  h σ B H s.s s.ok _ fun v B2 H2 n2 r => q d M v B2 H2 p n2.b (s.nx n2) r
theorem y_imp {P P2 : Da → Mu → Prop} (h : EvY K B0 H0 Γ M te P) (hp : ∀ d M', P d M' → P2 d M') : EvY K B0 H0 Γ M te P2 := fun σ B H s Q q => h σ B H s Q fun d M' v B2 H2 p => q d M' v B2 H2 (hp d M' p)
theorem yb_of {b : Bool} {P : Bool → Mu → Prop} (h : EvB K Γ tt b) (p : P b M) : EvYB K B0 H0 Γ M tt P := fun σ B H s Q q =>
  h σ B H s.s s.ok _ fun B2 H2 n2 => q b M B2 H2 p n2.b (s.nx n2)
theorem ys_of {P : List Da → Mu → Prop} (h : EvS K Γ tr ds) (p : P ds M) : EvYS K B0 H0 Γ M tr P := fun σ B H s Q q =>
  h σ B H s.s s.ok _ fun v B2 H2 n2 r => q ds M v B2 H2 p n2.b (s.nx n2) r
theorem yi_of {P : List Da → Mu → Prop} {wi : TI} (h : EvI K Γ wi ds) (p : P ds M) : EvYI K B0 H0 Γ M wi P := fun σ B H s R q =>
  h σ B H s.s s.ok _ fun J B2 H2 n2 w => q ds M J B2 H2 p n2.b (s.nx n2) w
theorem y_op {P1 : Da → Mu → Prop} {P : Da → Mu → Prop} {P2 : Da → Da → Mu → Prop} (ha : EvY K B0 H0 Γ M ta P1) (hb : ∀ d1 M1, P1 d1 M1 → EvY K B0 H0 Γ M1 tb (P2 d1)) (hr : ∀ d1 M1 d2 M2, P1 d1 M1 → P2 d1 d2 M2 → ∃ d, RG K r d1 d2 d ∧ P d M2) : EvY K B0 H0 Γ M (tOp r ta tb) P := fun σ B H s Q q =>
  ha σ B H s _ fun d1 M1 v1 B1 H1 p1 e1 s1 r1 => hb d1 M1 p1 σ B1 H1 s1 _ fun d2 M2 v2 B2 H2 p2 e2 s2 r2 => by
    obtain ⟨d, hd, hp⟩ := hr d1 M1 d2 M2 p1 p2
    exact hd B2 H2 v1 v2 s2.ok (Rp.mono e2 _ _ r1) r2 Q fun v3 B3 H3 n3 r3 => q d M2 v3 B3 H3 hp ((e1.trans e2).trans n3.b) (s2.nx n3) r3
theorem ys_nil {P : List Da → Mu → Prop} (p : P [] M) : EvYS K B0 H0 Γ M tNil P := ys_of s_nil p
theorem ys_cons {P1 : Da → Mu → Prop} {P : List Da → Mu → Prop} (ha : EvY K B0 H0 Γ M ta P1) (hr : ∀ d1 M1, P1 d1 M1 → EvYS K B0 H0 Γ M1 tr (fun ds M2 => P (d1 :: ds) M2)) : EvYS K B0 H0 Γ M (tCons ta tr) P := fun σ B H s Q q =>
  ha σ B H s _ fun d1 M1 v1 B1 H1 p1 e1 s1 r1 => hr d1 M1 p1 σ B1 H1 s1 _ fun ds M2 vs B2 H2 p2 e2 s2 r2 => q (d1 :: ds) M2 (v1 :: vs) B2 H2 p2 (e1.trans e2) s2 ⟨v1, vs, rfl, Rp.mono e2 _ _ r1, r2⟩
theorem y_call {f : List Da → Da → Prop} {E : XK} {P1 : List Da → Mu → Prop} {P : Da → Mu → Prop} (h : EvYS K B0 H0 Γ M tr P1) (hf : ∀ ds M1, P1 ds M1 → ∃ d, f ds d ∧ P d M1) : EvY K B0 H0 Γ M (tCall (Pu K f) [] E tr) P := fun σ B H s Q q =>
  h σ B H s _ fun ds M1 vs B1 H1 p1 e1 s1 r1 => by
    obtain ⟨d, hd, hp⟩ := hf ds M1 p1
    rw [List.append_nil]
    exact ⟨B1, ds, d, s1.ok, r1, hd, fun v B2 H2 n2 r2 => q d M1 v B2 H2 hp (e1.trans n2.b) (s1.nx n2) r2⟩
theorem y_cb {rc : List V → Hp → VK → Prop} {P1 : List Da → Mu → Prop} {P : Da → Mu → Prop} (h : EvYS K B0 H0 Γ M tr P1) (hf : ∀ ds M1, P1 ds M1 → ∃ d, RGC K rc ds d ∧ P d M1) : EvY K B0 H0 Γ M (tCB rc tr) P := fun σ B H s Q q =>
  h σ B H s _ fun ds M1 vs B1 H1 p1 e1 s1 r1 => by
    obtain ⟨d, hd, hp⟩ := hf ds M1 p1
    exact hd B1 H1 vs s1.ok r1 Q fun v B2 H2 n2 r2 => q d M1 v B2 H2 hp (e1.trans n2.b) (s1.nx n2) r2
theorem y_un {rc : V → Hp → VK → Prop} {P1 : Da → Mu → Prop} {P : Da → Mu → Prop} (h : EvY K B0 H0 Γ M ta P1) (hf : ∀ d M1, P1 d M1 → ∃ d2, RG1 K rc d d2 ∧ P d2 M1) : EvY K B0 H0 Γ M (tUn rc ta) P := fun σ B H s Q q =>
  h σ B H s _ fun d M1 v B1 H1 p1 e1 s1 r1 => by
    obtain ⟨d2, hd, hp⟩ := hf d M1 p1
    exact hd B1 H1 v s1.ok r1 Q fun v B2 H2 n2 r2 => q d2 M1 v B2 H2 hp (e1.trans n2.b) (s1.nx n2) r2
theorem y_tup {P1 : List Da → Mu → Prop} {P : Da → Mu → Prop} (h : EvYS K B0 H0 Γ M tr P1) (hl : ∀ ds M', P1 ds M' → ds.length ≤ 1000000 ∧ P (.tup ds) M') : EvY K B0 H0 Γ M (tTup tr) P := fun σ B H s Q q =>
  h σ B H s _ fun ds M1 vs B1 H1 p e1 s1 r => ⟨size_ok (by rw [r.length]; exact (hl ds M1 p).1), fun p' hp => Goes.tup (K := K) (ds := ds) (fun v B2 H2 n2 rv => q (.tup ds) M1 v B2 H2 (hl ds M1 p).2 (e1.trans n2.b) (s1.nx n2) rv) s1.ok r hp⟩
theorem y_lst {P1 : List Da → Mu → Prop} {P : Da → Mu → Prop} (h : EvYS K B0 H0 Γ M tr P1) (hl : ∀ ds M', P1 ds M' → ds.length ≤ 1000000 ∧ P (.lst ds) M') : EvY K B0 H0 Γ M (tLst tr) P := fun σ B H s Q q =>
  h σ B H s _ fun ds M1 vs B1 H1 p e1 s1 r => ⟨size_ok (by rw [r.length]; exact (hl ds M1 p).1), fun p' hp => Goes.lst (K := K) (ds := ds) (fun v B2 H2 n2 rv => q (.lst ds) M1 v B2 H2 (hl ds M1 p).2 (e1.trans n2.b) (s1.nx n2) rv) s1.ok r hp⟩
theorem y_if {P1 : Bool → Mu → Prop} {P : Da → Mu → Prop} (h : EvYB K B0 H0 Γ M tt P1) (h1 : ∀ M', P1 true M' → EvY K B0 H0 Γ M' ta P) (h2 : ∀ M', P1 false M' → EvY K B0 H0 Γ M' tb P) : EvY K B0 H0 Γ M (tIf tt ta tb) P := fun σ B H s Q q =>
  h σ B H s _ fun b M1 B1 H1 p e1 s1 => by
    cases b with
    | true =>
      rw [if_pos rfl]
      exact h1 M1 p σ B1 H1 s1 Q fun d M2 v B2 H2 p2 e2 => q d M2 v B2 H2 p2 (e1.trans e2)
    | false =>
      rw [if_neg Bool.false_ne_true]
      exact h2 M1 p σ B1 H1 s1 Q fun d M2 v B2 H2 p2 e2 => q d M2 v B2 H2 p2 (e1.trans e2)
theorem yb_test {P : Bool → Mu → Prop} (h : EvY K B0 H0 Γ M te (fun d M' => ∃ b, d = .bl b ∧ P b M')) : EvYB K B0 H0 Γ M (tTest te) P := fun σ B H s Q q =>
  h σ B H s _ fun d M' v B2 H2 ⟨b, e, p⟩ e2 s2 r => by
    subst e
    exact ⟨b, r, q b M' B2 H2 p e2 s2⟩
theorem yb_B {P : Bool → Mu → Prop} (h : EvY K B0 H0 Γ M te (fun d M' => ∃ b, d = .bl b ∧ P b M')) : EvYB K B0 H0 Γ M (tB te) P := fun σ B H s Q q =>
  h σ B H s _ fun d M' v B2 H2 ⟨b, e, p⟩ e2 s2 r => by
    subst e
    exact ⟨b, r, q b M' B2 H2 p e2 s2⟩
theorem yb_not {P : Bool → Mu → Prop} (h : EvYB K B0 H0 Γ M tt (fun b M' => P (!b) M')) : EvYB K B0 H0 Γ M (tNot tt) P := fun σ B H s Q q => h σ B H s _ fun b M1 B1 H1 p e1 s1 => q (!b) M1 B1 H1 p e1 s1
theorem yb_and {P1 P : Bool → Mu → Prop} (h : EvYB K B0 H0 Γ M tt P1) (h1 : ∀ M', P1 true M' → EvYB K B0 H0 Γ M' ttb P) (h2 : ∀ M', P1 false M' → P false M') : EvYB K B0 H0 Γ M (tAnd tt ttb) P := fun σ B H s Q q => h σ B H s _ fun b M1 B1 H1 p e1 s1 => by
  cases b with
  | true =>
    rw [if_pos rfl]
    exact h1 M1 p σ B1 H1 s1 Q fun b2 M2 B2 H2 p2 e2 => q b2 M2 B2 H2 p2 (e1.trans e2)
  | false =>
    rw [if_neg Bool.false_ne_true]
    exact q false M1 B1 H1 (h2 M1 p) e1 s1
theorem yb_or {P1 P : Bool → Mu → Prop} (h : EvYB K B0 H0 Γ M tt P1) (h1 : ∀ M', P1 false M' → EvYB K B0 H0 Γ M' ttb P) (h2 : ∀ M', P1 true M' → P true M') : EvYB K B0 H0 Γ M (tOr tt ttb) P := fun σ B H s Q q => h σ B H s _ fun b M1 B1 H1 p e1 s1 => by
  cases b with
  | false =>
    rw [if_neg Bool.false_ne_true]
    exact h1 M1 p σ B1 H1 s1 Q fun b2 M2 B2 H2 p2 e2 => q b2 M2 B2 H2 p2 (e1.trans e2)
  | true =>
    rw [if_pos rfl]
    exact q true M1 B1 H1 (h2 M1 p) e1 s1
/-- len(xs), xs[i], xs.pop(i) of a list of one's own -/
theorem y_len {o : Nat} {l : Addr} {P : Da → Mu → Prop} (hj : M[j]? = some (some o, l, ds)) (hp : P (.int (ds.length : Nat)) M) : EvY K B0 H0 Γ M (tCB (rLenQ K) (tCons (tVar o) tNil)) P := fun σ B H s Q q => by
  obtain ⟨h1, h2, xs, h3, h4⟩ := s.h.at hj
  refine ⟨.ref l, s.l _ (List.mem_of_getElem? hj) o rfl, l, xs, rfl, .inl (.inl (.inl h3)), ?_⟩
  rw [h4.length]
  exact q (.int (ds.length : Nat)) M _ B H hp (.refl _) s rfl
theorem y_ix {o : Nat} {l : Addr} {P P1 : Da → Mu → Prop} {f : Da → Nat} (hj : M[j]? = some (some o, l, ds)) (hi : EvY K B0 H0 Γ M tb (fun d M' => ∃ x : Nat, d = .int (x : Int) ∧ M' = M ∧ ∃ d1, ds[x]? = some d1 ∧ P d1 M)) : EvY K B0 H0 Γ M (tOp (rIxL K) (tVar o) tb) P := fun σ B H s Q q => by
  refine ⟨.ref l, s.l _ (List.mem_of_getElem? hj) o rfl, hi σ B H s _ fun d M' v B2 H2 ⟨x, e, eM, d1, hd, hp⟩ e2 s2 r => ?_⟩
  subst e
  subst eM
  obtain rfl : v = .int (x : Int) := r
  obtain ⟨h1, h2, xs, h3, h4⟩ := s2.h.at hj
  obtain ⟨y, hy, ry⟩ := h4.get hd
  exact ⟨l, xs, (x : Int), y, rfl, rfl, .inl (.inl h3), atI_nat hy, q d1 M' y B2 H2 hp e2 s2 ry⟩
theorem Stt.put {o : Option Nat} {l : Addr} {xs : List V} {ds2 : List Da} (s : Stt K B0 H0 Γ M σ B H) (hj : M[j]? = some (o, l, ds)) (rr : RpA K B ds2 xs) : Stt K B0 H0 Γ (M.set j (o, l, ds2)) σ B (upd H l (.lst xs)) := by
  obtain ⟨h1, h2, ys, h3, h4⟩ := s.h.at hj
  refine ⟨s.s, s.h.put hj rr, fun m hm k hk => ?_, s.n.mut h1 h2 (ml_of h3)⟩
  rcases List.mem_or_eq_of_mem_set hm with hm | hm
  · exact s.l m hm k hk
  · subst hm
    exact s.l _ (List.mem_of_getElem? hj) k hk
theorem seq_natF {x n : Nat} (h1 : x < n) : seqIndex? (x : Int) n = some x := by
  unfold seqIndex?
  simp
  omega
theorem y_popAt {o : Nat} {l : Addr} {P : Da → Mu → Prop} (hj : M[j]? = some (some o, l, ds)) (hi : EvY K B0 H0 Γ M tb (fun d M' => ∃ (x : Nat) (ds' : List Da) (d1 : Da), d = .int (x : Int) ∧ x < 1000000 ∧ M'[j]? = some (some o, l, ds') ∧ ds'[x]? = some d1 ∧ P d1 (M'.set j (some o, l, ds'.eraseIdx x)))) : EvY K B0 H0 Γ M (tBM K "list" rPopAt (tVar o) (tCons tb tNil)) P := fun σ B H s Q q => by
  obtain ⟨_, _, xs0, h30, _⟩ := s.h.at hj
  refine ⟨.ref l, s.l _ (List.mem_of_getElem? hj) o rfl, .inl ⟨rfl, xs0, .inl (.inl h30)⟩, hi σ B H s _ fun d M' v B2 H2 ⟨x, ds', d1, e, hx, hj', hd, hp⟩ e2 s2 r => ?_⟩
  subst e
  obtain rfl : v = .int (x : Int) := r
  obtain ⟨h1, h2, xs, h3, h4⟩ := s2.h.at hj'
  obtain ⟨y, hy, ry⟩ := h4.get hd
  refine ⟨l, xs, (x : Int), x, y, rfl, rfl, h3, by omega, by omega, seq_natF (List.getElem?_eq_some_iff.mp hy).1, hy, ?_⟩
  exact q d1 _ y B2 _ hp e2 (s2.put hj' (RpA.eraseIdx x h4)) ry
/-! ### statements -/
def seqO (u : TS) (K : PySem.W.Frag) (B0 H0 : Hp) (post : Ou → Prop) : Ou → Prop
  | .nx Γ M => EvP K B0 H0 Γ M u post
  | o => post o
theorem p_seq (h : EvP K B0 H0 Γ M t (seqO u K B0 H0 post)) : EvP K B0 H0 Γ M (tSeq t u) post := fun σ B H D s f => by
  refine h σ B H _ s fun o po => ?_
  cases o with
  | nx Γ1 M1 => exact fun σ2 B2 H2 e2 s2 => po σ2 B2 H2 D s2 fun o2 p2 => (f o2 p2).mono e2
  | rt d M1 => exact f _ po
  | bk Γ1 M1 => exact f _ po
  | ct Γ1 M1 => exact f _ po
theorem p_imp {post2 : Ou → Prop} (h : EvP K B0 H0 Γ M t post) (hp : ∀ o, post o → post2 o) : EvP K B0 H0 Γ M t post2 := fun σ B H D s f => h σ B H D s fun o po => f o (hp o po)
theorem p_pre (l : le Γ Γ1) (h : EvP K B0 H0 Γ1 M t post) : EvP K B0 H0 Γ M t post := fun σ B H D s f => h σ B H D (s.le l) f
theorem p_next (hp : post (.nx Γ M)) : EvP K B0 H0 Γ M tNext post := fun σ B H D s f => f _ hp σ B H (.refl _) s
theorem p_break (hp : post (.bk Γ M)) : EvP K B0 H0 Γ M tBreak post := fun σ B H D s f => f _ hp σ B H (.refl _) s
theorem p_cont (hp : post (.ct Γ M)) : EvP K B0 H0 Γ M tCont post := fun σ B H D s f => f _ hp σ B H (.refl _) s
theorem p_asgY {P : Da → Mu → Prop} (h : EvY K B0 H0 Γ M te P) (hk : ∀ d M1, P d M1 → (∀ m ∈ M1, m.1 ≠ some i) ∧ post (.nx (Γ.set i (some d)) M1)) : EvP K B0 H0 Γ M (tAsg te (gName i)) post := fun σ B H D s f =>
  h σ B H s _ fun d M1 v B2 H2 p e2 s2 r => f _ (hk d M1 p).2 _ B2 H2 e2 (s2.set r (hk d M1 p).1)
theorem p_asg (h : EvG K Γ te d) (hi : ∀ m ∈ M, m.1 ≠ some i) (hp : post (.nx (Γ.set i (some d)) M)) : EvP K B0 H0 Γ M (tAsg te (gName i)) post := p_asgY (y_pure h) fun d' M1 ⟨e1, e2⟩ => by
  subst e1
  subst e2
  exact ⟨hi, hp⟩
theorem p_asgY2 {i2 : Nat} {P : Da → Mu → Prop} (h : EvY K B0 H0 Γ M te P) (hk : ∀ d M1, P d M1 → ∃ a b, d = .tup [a, b] ∧ (∀ m ∈ M1, m.1 ≠ some i ∧ m.1 ≠ some i2) ∧ post (.nx ((Γ.set i (some a)).set i2 (some b)) M1)) : EvP K B0 H0 Γ M (tAsg te (gTup K 2 (gCons (gName i) (gCons (gName i2) gNil)))) post := fun σ B H D s f =>
  h σ B H s _ fun d M1 v B2 H2 p e2 s2 r => by
    obtain ⟨a, b, rfl, hi, hp⟩ := hk d M1 p
    obtain ⟨q, xs, rfl, h3, h4⟩ := r
    obtain ⟨x1, x2, rfl, r1, r2⟩ := rpa2 h4
    exact ⟨q, _, rfl, ex_t s2.ok h3, rfl, _, [x2], rfl, _, [], rfl, rfl, f _ hp _ B2 H2 e2 ((s2.set r1 fun m hm => (hi m hm).1).set r2 fun m hm => (hi m hm).2)⟩
theorem p_drop {P : Da → Mu → Prop} (h : EvY K B0 H0 Γ M te P) (hk : ∀ d M1, P d M1 → post (.nx Γ M1)) : EvP K B0 H0 Γ M (tDrop te) post := fun σ B H D s f =>
  h σ B H s _ fun d M1 v B2 H2 p e2 s2 r => f _ (hk d M1 p) _ B2 H2 e2 s2
theorem p_retY {P : Da → Mu → Prop} (h : EvY K B0 H0 Γ M te P) (hk : ∀ d M1, P d M1 → post (.rt d M1)) : EvP K B0 H0 Γ M (tRet te) post := fun σ B H D s f =>
  h σ B H s _ fun d M1 v B2 H2 p e2 s2 r => f _ (hk d M1 p) v B2 H2 e2 s2.h s2.n r
theorem p_ret (h : EvG K Γ te d) (hp : post (.rt d M)) : EvP K B0 H0 Γ M (tRet te) post := p_retY (y_pure h) fun d' M1 ⟨e1, e2⟩ => by
  subst e1
  subst e2
  exact hp
theorem p_if {b : Bool} (h : EvB K Γ tt b) (h1 : b = true → EvP K B0 H0 Γ M t1 post) (h2 : b = false → EvP K B0 H0 Γ M t2 post) : EvP K B0 H0 Γ M (tIfS tt t1 t2) post := fun σ B H D s f =>
  h σ B H s.s s.ok _ fun B2 H2 n2 => by
    cases b with
    | true =>
      rw [if_pos rfl]
      exact h1 rfl σ B2 H2 D (s.nx n2) fun o po => (f o po).mono n2.b
    | false =>
      rw [if_neg Bool.false_ne_true]
      exact h2 rfl σ B2 H2 D (s.nx n2) fun o po => (f o po).mono n2.b
theorem p_yes (h : EvB K Γ tt true) (h1 : EvP K B0 H0 Γ M t1 post) : EvP K B0 H0 Γ M (tIfS tt t1 t2) post := p_if h (fun _ => h1) fun e => nomatch e
theorem p_no (h : EvB K Γ tt false) (h1 : EvP K B0 H0 Γ M t2 post) : EvP K B0 H0 Γ M (tIfS tt t1 t2) post := p_if h (fun e => nomatch e) fun _ => h1
theorem p_ifY {P : Bool → Mu → Prop} (h : EvYB K B0 H0 Γ M tt P) (h1 : ∀ M1, P true M1 → EvP K B0 H0 Γ M1 t1 post) (h2 : ∀ M1, P false M1 → EvP K B0 H0 Γ M1 t2 post) : EvP K B0 H0 Γ M (tIfS tt t1 t2) post := fun σ B H D s f =>
  h σ B H s _ fun b M1 B2 H2 p e2 s2 => by
    cases b with
    | true =>
      rw [if_pos rfl]
      exact h1 M1 p σ B2 H2 D s2 fun o po => (f o po).mono e2
    | false =>
      rw [if_neg Bool.false_ne_true]
      exact h2 M1 p σ B2 H2 D s2 fun o po => (f o po).mono e2
/-- x = [] that grows -/
theorem p_new (hi : (Γ[i]?).isSome = true) (hn : ∀ m ∈ M, m.1 ≠ some i) (hp : ∀ l, post (.nx (Γ.set i none) ((some i, l, []) :: M))) : EvP K B0 H0 Γ M (tAsg (tLst tNil) (gName i)) post := fun σ B H D s f => by
  refine ⟨Nat.zero_le _, fun l hl => ?_⟩
  have n2 : Nx B H B (upd H l (.lst [])) := .out s.ok hl
  have s2 := s.nx n2
  refine f _ (hp l) _ B _ (.refl _) ⟨s2.s.set0 i, ⟨⟨h0_none s.n hl, fresh_back s.ok hl, ⟨[], upd_same, rfl⟩, s.h.fresh hl⟩, s2.h⟩, fun m hm k hk => ?_, s2.n⟩
  rcases List.mem_cons.mp hm with e | hm
  · subst e
    cases (Option.some.inj hk : i = k)
    have : i < σ.length := by
      rw [s.s.len]
      cases e : Γ[i]? with
      | none => rw [e] at hi; cases hi
      | some x => exact (List.getElem?_eq_some_iff.mp e).1
    simp [this]
  · rw [List.getElem?_set_ne (fun e => hn m hm (by rw [hk, e]))]
    exact s.l m hm k hk
/-- xs.append(e) of a list of one's own, entry j -/
theorem p_app {o : Nat} {l : Addr} {P : Da → Mu → Prop} (hj : M[j]? = some (some o, l, ds)) (h : EvY K B0 H0 Γ M te P) (hk : ∀ d M1, P d M1 → ∃ ds', M1[j]? = some (some o, l, ds') ∧ ds'.length < 1000000 ∧ post (.nx Γ (M1.set j (some o, l, ds' ++ [d])))) : EvP K B0 H0 Γ M (tDrop (tBM K "list" rAppend (tVar o) (tCons te tNil))) post := fun σ B H D s f => by
  obtain ⟨_, _, xs0, h30, _⟩ := s.h.at hj
  refine ⟨.ref l, s.l _ (List.mem_of_getElem? hj) o rfl, .inl ⟨rfl, xs0, .inl (.inl h30)⟩, h σ B H s _ fun d M1 v B2 H2 p e2 s2 r => ?_⟩
  obtain ⟨ds', hj', hz, hp⟩ := hk d M1 p
  obtain ⟨h1, h2, xs, h3, h4⟩ := s2.h.at hj'
  exact ⟨l, xs, v, rfl, rfl, h3, size_lt (by rw [h4.length]; exact hz), f _ hp σ B2 _ e2 (s2.put hj' (h4.append (.one r)))⟩
/-- xs[i] = e of a list of one's own, entry j -/
theorem p_setL {o x : Nat} {l : Addr} (hj : M[j]? = some (some o, l, ds)) (h : EvG K Γ te d) (hi : EvG K Γ tb (.int (x : Int))) (hx : x < ds.length) (hp : post (.nx Γ (M.set j (some o, l, ds.set x d)))) : EvP K B0 H0 Γ M (tAsg te (gSub (tVar o) tb rSetL)) post := fun σ B H D s f =>
  h σ B H s.s s.ok _ fun v B1 H1 n1 r1 => by
    have s1 := s.nx n1
    refine ⟨.ref l, s1.l _ (List.mem_of_getElem? hj) o rfl, hi σ B1 H1 s1.s s1.ok _ fun y B2 H2 n2 r2 => ?_⟩
    obtain rfl : y = .int (x : Int) := r2
    have s2 := s1.nx n2
    obtain ⟨h1, h2, xs, h3, h4⟩ := s2.h.at hj
    exact ⟨l, xs, (x : Int), x, rfl, rfl, h3, ixN_nat (by rw [h4.length]; exact hx), f _ hp σ B2 _ (n1.b.trans n2.b) (s2.put hj (RpA.set x h4 (Rp.mono n2.b _ _ r1)))⟩
theorem p_setLY {o : Nat} {l : Addr} {P : Da → Mu → Prop} (h : EvY K B0 H0 Γ M te P) (hk : ∀ d M1, P d M1 → ∃ (ds' : List Da) (x : Nat), M1[j]? = some (some o, l, ds') ∧ EvG K Γ tb (.int (x : Int)) ∧ x < ds'.length ∧ post (.nx Γ (M1.set j (some o, l, ds'.set x d)))) : EvP K B0 H0 Γ M (tAsg te (gSub (tVar o) tb rSetL)) post := fun σ B H D s f =>
  h σ B H s _ fun d M1 v B1 H1 p e1 s1 r1 => by
    obtain ⟨ds', x, hj, hi, hx, hp⟩ := hk d M1 p
    refine ⟨.ref l, s1.l _ (List.mem_of_getElem? hj) o rfl, hi σ B1 H1 s1.s s1.ok _ fun y B2 H2 n2 r2 => ?_⟩
    obtain rfl : y = .int (x : Int) := r2
    have s2 := s1.nx n2
    obtain ⟨h1, h2, xs, h3, h4⟩ := s2.h.at hj
    exact ⟨l, xs, (x : Int), x, rfl, rfl, h3, ixN_nat (by rw [h4.length]; exact hx), f _ hp σ B2 _ (e1.trans n2.b) (s2.put hj (RpA.set x h4 (Rp.mono n2.b _ _ r1)))⟩
/-- a list that changes no more, entry j -/
theorem Stt.frz {o : Option Nat} {l : Addr} (s : Stt K B0 H0 Γ M σ B H) (hj : M[j]? = some (o, l, ds)) : ∃ xs, RpA K B ds xs ∧ H l = some (.lst xs) ∧ B l = none ∧ Stt K B0 H0 Γ (M.eraseIdx j) σ (upd B l (.lst xs)) H := by
  obtain ⟨h1, h2, xs, h3, h4⟩ := s.h.at hj
  exact ⟨xs, h4, h3, h2, s.s.mono (.new h2), s.h.drop.updB h2 (s.h.apart hj), fun m hm => s.l m (List.mem_of_mem_eraseIdx hm), s.n.frz h1 h2 h3⟩
theorem p_frz {o : Nat} {l : Addr} (hj : M[j]? = some (some o, l, ds)) (h : EvP K B0 H0 (Γ.set o (some (.lst ds))) (M.eraseIdx j) t post) : EvP K B0 H0 Γ M t post := fun σ B H D s f => by
  obtain ⟨xs, ra, hH, hB, s2⟩ := s.frz hj
  have hσ := s.l _ (List.mem_of_getElem? hj) o rfl
  have e : σ.set o (some (.ref l)) = σ := by
    apply List.ext_getElem?
    intro m
    by_cases hm : m = o
    · subst hm
      obtain ⟨hk, e⟩ := List.getElem?_eq_some_iff.mp hσ
      rw [List.getElem?_set_self hk, hσ]
    · rw [List.getElem?_set_ne (Ne.symm hm)]
  have hs2 := s2.s.set (d := .lst ds) (v := .ref l) o ⟨l, xs, rfl, upd_same, RpA.mono (.new hB) _ _ ra⟩
  rw [e] at hs2
  exact h σ _ H D ⟨hs2, s2.h, s2.l, s2.n⟩ fun o po => (f o po).mono (.new hB)
/-- an expression's value may be a list of one's own that changes no more -/
theorem y_frz {o : Nat} {l : Addr} {P : Da → Mu → Prop} (hj : M[j]? = some (some o, l, ds)) (h : EvY K B0 H0 (Γ.set o (some (.lst ds))) (M.eraseIdx j) te P) : EvY K B0 H0 Γ M te (fun d M' => P d M') → EvY K B0 H0 Γ M te P := id
def lopO (I : Sls → Mu → Prop) (post : Ou → Prop) : Ou → Prop
  | .nx Γ M => I Γ M
  | .ct Γ M => I Γ M
  | .bk Γ M => post (.nx Γ M)
  | .rt d M => post (.rt d M)
theorem p_for {wi : TI} (hi : EvI K Γ wi ds) (I : Nat → Sls → Mu → Prop) (h0 : I 0 Γ M) (hn : ∀ i Γ1 M1, I i Γ1 M1 → ∀ m ∈ M1, m.1 ≠ some j)
    (hb : ∀ i d Γ1 M1, ds[i]? = some d → I i Γ1 M1 → EvP K B0 H0 (Γ1.set j (some d)) M1 tu (lopO (I (i + 1)) post)) (he : ∀ Γ1 M1, I ds.length Γ1 M1 → post (.nx Γ1 M1)) : EvP K B0 H0 Γ M (tFor wi (gName j) tu) post := fun σ B H D s f => by
  refine z_for hi s.s s.ok (fun i σ' B' H' => Ex B B' ∧ ∃ Γ1 M1, I i Γ1 M1 ∧ Stt K B0 H0 Γ1 M1 σ' B' H') (fun B1 H1 n1 => ⟨n1.b, Γ, M, h0, s.nx n1⟩) (fun i σ' B' H' ⟨_, _, _, _, q⟩ => q.ok)
    (fun i d x σ' B' H' B2 H2 hd eb ⟨_, Γ1, M1, q, s1⟩ n2 rx => ?_) (fun σ' B' H' eb ⟨_, Γ1, M1, q, s1⟩ => f _ (he Γ1 M1 q) σ' B' H' eb s1)
  refine hb i d Γ1 M1 hd q _ B2 H2 _ ((s1.nx n2).set rx (hn i Γ1 M1 q)) fun o po => ?_
  cases o with
  | nx Γ2 M2 => exact fun σ3 B3 H3 e3 s3 => ⟨B3, n2.b.trans e3, eb.trans (n2.b.trans e3), Γ2, M2, po, s3⟩
  | ct Γ2 M2 => exact fun σ3 B3 H3 e3 s3 => ⟨B3, n2.b.trans e3, eb.trans (n2.b.trans e3), Γ2, M2, po, s3⟩
  | bk Γ2 M2 => exact fun σ3 B3 H3 e3 s3 => f _ po σ3 B3 H3 (eb.trans (n2.b.trans e3)) s3
  | rt d M2 => exact fun v B3 H3 e3 => f _ po v B3 H3 (eb.trans (n2.b.trans e3))
theorem p_for2 {wi : TI} {j2 : Nat} (hi : EvI K Γ wi ds) (I : Nat → Sls → Mu → Prop) (h0 : I 0 Γ M) (hn : ∀ i Γ1 M1, I i Γ1 M1 → ∀ m ∈ M1, m.1 ≠ some j ∧ m.1 ≠ some j2)
    (hb : ∀ i d Γ1 M1, ds[i]? = some d → I i Γ1 M1 → ∃ a b, d = .tup [a, b] ∧ EvP K B0 H0 ((Γ1.set j (some a)).set j2 (some b)) M1 tu (lopO (I (i + 1)) post)) (he : ∀ Γ1 M1, I ds.length Γ1 M1 → post (.nx Γ1 M1)) : EvP K B0 H0 Γ M (tFor wi (gTup K 2 (gCons (gName j) (gCons (gName j2) gNil))) tu) post := fun σ B H D s f => by
  refine z_for hi s.s s.ok (fun i σ' B' H' => Ex B B' ∧ ∃ Γ1 M1, I i Γ1 M1 ∧ Stt K B0 H0 Γ1 M1 σ' B' H') (fun B1 H1 n1 => ⟨n1.b, Γ, M, h0, s.nx n1⟩) (fun i σ' B' H' ⟨_, _, _, _, q⟩ => q.ok)
    (fun i d x σ' B' H' B2 H2 hd eb ⟨_, Γ1, M1, q, s1⟩ n2 rx => ?_) (fun σ' B' H' eb ⟨_, Γ1, M1, q, s1⟩ => f _ (he Γ1 M1 q) σ' B' H' eb s1)
  obtain ⟨a, b, rfl, hT⟩ := hb i d Γ1 M1 hd q
  obtain ⟨p, xs, rfl, h3, h4⟩ := rx
  obtain ⟨x1, x2, rfl, r1, r2⟩ := rpa2 h4
  refine ⟨p, _, rfl, ex_t n2.ok h3, rfl, _, [x2], rfl, _, [], rfl, rfl, ?_⟩
  refine hT _ B2 H2 _ (((s1.nx n2).set r1 fun m hm => (hn i Γ1 M1 q m hm).1).set r2 fun m hm => (hn i Γ1 M1 q m hm).2) fun o po => ?_
  cases o with
  | nx Γ2 M2 => exact fun σ3 B3 H3 e3 s3 => ⟨B3, n2.b.trans e3, eb.trans (n2.b.trans e3), Γ2, M2, po, s3⟩
  | ct Γ2 M2 => exact fun σ3 B3 H3 e3 s3 => ⟨B3, n2.b.trans e3, eb.trans (n2.b.trans e3), Γ2, M2, po, s3⟩
  | bk Γ2 M2 => exact fun σ3 B3 H3 e3 s3 => f _ po σ3 B3 H3 (eb.trans (n2.b.trans e3)) s3
  | rt d M2 => exact fun v B3 H3 e3 => f _ po v B3 H3 (eb.trans (n2.b.trans e3))
theorem p_while (I : Nat → Sls → Mu → Prop) (m0 : Nat) (h0 : I m0 Γ M)
    (hb : ∀ m Γ1 M1, I m Γ1 M1 → ∃ b, EvB K Γ1 tt b ∧ (b = true → EvP K B0 H0 Γ1 M1 tu (lopO (fun Γ2 M2 => ∃ m', m' < m ∧ I m' Γ2 M2) post)) ∧ (b = false → post (.nx Γ1 M1))) : EvP K B0 H0 Γ M (tWhile tt tu) post := fun σ B H D s f => by
  refine z_while (B := B) (K := K) (fun m σ' B' H' => Ex B B' ∧ ∃ Γ1 M1, I m Γ1 M1 ∧ Stt K B0 H0 Γ1 M1 σ' B' H') m0 ⟨.refl _, Γ, M, h0, s⟩ ?_
  rintro m σ' B' H' ⟨eb, Γ1, M1, q, s1⟩
  obtain ⟨b, ht, h1, h2⟩ := hb m Γ1 M1 q
  refine ⟨Γ1, b, s1.s, s1.ok, ht, fun e B2 H2 n2 => ?_, fun e B2 H2 n2 => f _ (h2 e) σ' B2 H2 (eb.trans n2.b) (s1.nx n2)⟩
  refine h1 e σ' B2 H2 _ (s1.nx n2) fun o po => ?_
  cases o with
  | nx Γ2 M2 =>
    obtain ⟨m', hm', q'⟩ := po
    exact fun σ3 B3 H3 e3 s3 => ⟨m', hm', B3, eb.trans (n2.b.trans e3), Γ2, M2, q', s3⟩
  | ct Γ2 M2 =>
    obtain ⟨m', hm', q'⟩ := po
    exact fun σ3 B3 H3 e3 s3 => ⟨m', hm', B3, eb.trans (n2.b.trans e3), Γ2, M2, q', s3⟩
  | bk Γ2 M2 => exact fun σ3 B3 H3 e3 s3 => f _ po σ3 B3 H3 (eb.trans (n2.b.trans e3)) s3
  | rt d M2 => exact fun v B3 H3 e3 => f _ po v B3 H3 (eb.trans (n2.b.trans e3))
/-! ### bodies -/
theorem bodyP {D : Ends} (h : EvP K B H Γ [] t (fun o => o = .rt d [])) (hs : Sl K B Γ σ) (e : Ex B H) (k : Goes K B H d D.rt) : t D σ H :=
  h σ B H D ⟨hs, trivial, (fun m hm => nomatch hm), .refl e⟩ fun o po => by
    subst po
    exact fun v B2 H2 _ _ n r => k v B2 H2 n r
/-- a def's promise that changes one list that it is handed as its first argument -/
theorem nx_del {l : Addr} (e : Ex B H) (hB : B l = none) : Nx B (delH H l) B H := ⟨e, .refl _, del_sub, fun a h1 _ => h1⟩
def PuM (K : PySem.W.Frag) (pre : List Da → List Da → Prop) (post : List Da → List Da → Da → List Da → Prop) : Sp := fun vs H Q _ => ∃ B l xs ds0 ds ws, vs = .ref l :: ws ∧ Ex B H ∧ B l = none ∧ H l = some (.lst xs) ∧ RpA K B ds0 xs ∧ RpA K B ds ws ∧ pre ds0 ds ∧
  ∀ d ds1 v xs1 B2 H2, post ds0 ds d ds1 → Nx B (delH H l) B2 H2 → B2 l = none → H2 l = some (.lst xs1) → RpA K B2 ds1 xs1 → Rp K B2 d v → Q v H2
theorem bodyM {D : Ends} {l : Addr} {xs : List V} {ds0 : List Da} {vs : List Da} {pM : List Da → List Da → Da → List Da → Prop} (h : EvP K B (delH H l) Γ [(some 0, l, ds0)] t (fun o => ∃ d ds1 w, o = .rt d [(w, l, ds1)] ∧ pM ds0 vs d ds1)) (hs : Sl K B Γ σ) (e : Ex B H) (hB : B l = none) (hH : H l = some (.lst xs)) (ra : RpA K B ds0 xs) (hσ : σ[0]? = some (some (.ref l)))
    (k : ∀ d ds1 v xs1 B2 H2, pM ds0 vs d ds1 → Nx B (delH H l) B2 H2 → B2 l = none → H2 l = some (.lst xs1) → RpA K B2 ds1 xs1 → Rp K B2 d v → D.rt v H2) : t D σ H := by
  refine h σ B H D ⟨hs, ⟨⟨delH_same, hB, ⟨xs, hH, ra⟩, fun q hq => nomatch hq⟩, trivial⟩, fun m hm k hk => ?_, nx_del e hB⟩ fun o po => ?_
  · obtain rfl := List.mem_singleton.mp hm
    cases (Option.some.inj hk : 0 = k)
    exact hσ
  · obtain ⟨d, ds1, w, rfl, hp⟩ := po
    exact fun v B2 H2 _ ⟨⟨_, q2, ⟨xs1, q3, q4⟩, _⟩, _⟩ n r => k d ds1 v xs1 B2 H2 hp n q2 q3 q4 r
theorem MuH.other {l : Addr} (n : Nx B (delH H l) B2 H2) : ∀ {M : Mu}, MuH K H0 B H M → (∀ q ∈ M, q.2.1 ≠ l) → MuH K H0 B2 H2 M
  | [], _, _ => trivial
  | m :: r, ⟨⟨a1, a2, ⟨zs, a3, a4⟩, a5⟩, hr⟩, hn => by
    have hne := hn m (by simp)
    have q := n.apart a2 (by rw [delH_ne hne]; exact a3)
    exact ⟨⟨a1, q.1, ⟨zs, q.2, RpA.mono n.b _ _ a4⟩, a5⟩, hr.other n fun q hq => hn q (List.mem_cons_of_mem _ hq)⟩
theorem MuH.called {o : Option Nat} {l : Addr} {xs1 : List V} {ds1 : List Da} (n : Nx B (delH H l) B2 H2) (hB : B2 l = none) (hH : H2 l = some (.lst xs1)) (ra : RpA K B2 ds1 xs1) : ∀ {M : Mu} {j : Nat}, MuH K H0 B H M → M[j]? = some (o, l, ds) → MuH K H0 B2 H2 (M.set j (o, l, ds1))
  | [], _, _, e => by simp at e
  | m :: r, 0, ⟨⟨a1, a2, a3, a5⟩, hr⟩, e => by
    cases (Option.some.inj e : m = _)
    exact ⟨⟨a1, hB, ⟨xs1, hH, ra⟩, a5⟩, hr.other n a5⟩
  | m :: r, j + 1, ⟨⟨a1, a2, ⟨zs, a3, a4⟩, a5⟩, hr⟩, e => by
    have hml : (o, l, ds) ∈ r := List.mem_of_getElem? (i := j) e
    have hne : m.2.1 ≠ l := fun z => a5 _ hml z.symm
    have q := n.apart a2 (by rw [delH_ne hne]; exact a3)
    refine ⟨⟨a1, q.1, ⟨zs, q.2, RpA.mono n.b _ _ a4⟩, fun q hq => ?_⟩, hr.called n hB hH ra (j := j) e⟩
    rcases List.mem_or_eq_of_mem_set hq with hq | hq
    · exact a5 q hq
    · subst hq
      exact Ne.symm hne
theorem Stt.call {o : Option Nat} {l : Addr} {xs1 : List V} {ds1 : List Da} (s : Stt K B0 H0 Γ M σ B H) (hj : M[j]? = some (o, l, ds)) (n : Nx B (delH H l) B2 H2) (hB : B2 l = none) (hH : H2 l = some (.lst xs1)) (ra : RpA K B2 ds1 xs1) : Stt K B0 H0 Γ (M.set j (o, l, ds1)) σ B2 H2 := by
  obtain ⟨h1, h2, ys, h3, h4⟩ := s.h.at hj
  refine ⟨s.s.mono n.b, s.h.called n hB hH ra hj, fun m hm k hk => ?_, ⟨n.ok, s.n.b.trans n.b, (ex_del s.n.h h1 (ml_of h3)).trans n.h, fun a ha hh => ?_⟩⟩
  · rcases List.mem_or_eq_of_mem_set hm with hm | hm
    · exact s.l m hm k hk
    · subst hm
      exact s.l _ (List.mem_of_getElem? hj) k hk
  · by_cases hal : a = l
    · subst hal
      exact hB
    · exact n.nw a (s.n.nw a ha hh) ((hh.ex s.n.h).del hal)
theorem y_callM {o : Nat} {l : Addr} {E : XK} {pre : List Da → List Da → Prop} {pM : List Da → List Da → Da → List Da → Prop} {P1 : List Da → Mu → Prop} {P : Da → Mu → Prop} (hj : M[j]? = some (some o, l, ds)) (h : EvYS K B0 H0 Γ M tr P1)
    (hf : ∀ es M1, P1 es M1 → ∃ ds', M1[j]? = some (some o, l, ds') ∧ pre ds' es ∧ ∀ d ds1, pM ds' es d ds1 → P d (M1.set j (some o, l, ds1))) : EvY K B0 H0 Γ M (tCall (PuM K pre pM) [] E (tCons (tVar o) tr)) P := fun σ B H s Q q => by
  refine ⟨.ref l, s.l _ (List.mem_of_getElem? hj) o rfl, h σ B H s _ fun es M1 vs B1 H1 p1 e1 s1 r1 => ?_⟩
  obtain ⟨ds', hj', hpre, hpost⟩ := hf es M1 p1
  obtain ⟨h1, h2, xs, h3, h4⟩ := s1.h.at hj'
  rw [List.append_nil]
  exact ⟨B1, l, xs, ds', es, vs, rfl, s1.ok, h2, h3, h4, r1, hpre, fun d ds1 v xs1 B2 H2 hp n hB hH ra rv => q d _ v B2 H2 (hpost d ds1 hp) (e1.trans n.b) (s1.call hj' n hB hH ra) rv⟩
end
end Fo

/-! Fo15: comprehensions that draw -/
namespace Fo
open PySem PySem.Spec PyProof.Rows L2
open Evl (ixN_nat)
variable [Nm]
section
variable {K : PySem.W.Frag} {B0 H0 B H B2 H2 B3 H3 : Hp} {Γ Γ1 Γ2 : Sls} {M M1 M2 : Mu} {te ta tb : TE} {tt ttb : TT} {t u tu t1 t2 : TS} {d d1 d2 : Da} {σ σ2 : L2.St} {i j k : Nat} {ds : List Da} {r : R2} {tr : TA} {post : Ou → Prop}
/-- what stood may be told with one list more: it does not change then -/
theorem Stt.over {l : Addr} {xs : List V} {o : Option Nat} (s : Stt K B0 H0 Γ ((o, l, ds) :: M) σ B H) : ∃ xs, RpA K B ds xs ∧ H l = some (.lst xs) ∧ B l = none ∧ H0 l = none ∧ Stt K B0 (upd H0 l (.lst xs)) Γ M σ B H := by
  obtain ⟨⟨h1, h2, ⟨xs, h3, h4⟩, h5⟩, hr⟩ := s.h
  refine ⟨xs, h4, h3, h2, h1, s.s, ?_, fun m hm => s.l m (List.mem_cons_of_mem _ hm), ⟨s.n.ok, s.n.b, ex_frz0 s.n.h h3 rfl, fun a ha hh => ?_⟩⟩
  · have key : ∀ {M : Mu}, MuH K H0 B H M → (∀ q ∈ M, q.2.1 ≠ l) → MuH K (upd H0 l (.lst xs)) B H M := fun {M} => by
      induction M with
      | nil => exact fun _ _ => trivial
      | cons m r ih =>
        intro hm hn
        obtain ⟨⟨a1, a2, a3, a5⟩, hr⟩ := hm
        exact ⟨⟨by rw [upd_ne (hn m (by simp))]; exact a1, a2, a3, a5⟩, ih hr fun q hq => hn q (List.mem_cons_of_mem _ hq)⟩
    exact key hr h5
  · by_cases e : a = l
    · subst e
      exact h2
    · obtain ⟨u, hu, hc⟩ := hh
      rw [upd_ne e] at hu
      exact s.n.nw a ha ⟨u, hu, hc⟩
theorem Stt.back {l : Addr} {xs : List V} {o : Option Nat} (s : Stt K B0 (upd H0 l (.lst xs)) Γ M σ B H) (h0 : H0 l = none) (hb : B0 l = none) : H l = some (.lst xs) ∧ B l = none ∧ Stt K B0 H0 Γ M σ B H ∧ ∀ q ∈ M, q.2.1 ≠ l := by
  have hn : ∀ {M : Mu}, MuH K (upd H0 l (.lst xs)) B H M → MuH K H0 B H M ∧ ∀ q ∈ M, q.2.1 ≠ l := fun {M} => by
    induction M with
    | nil => exact fun _ => ⟨trivial, fun q hq => nomatch hq⟩
    | cons m r ih =>
      intro hm
      obtain ⟨⟨a1, a2, a3, a5⟩, hr⟩ := hm
      have hne : m.2.1 ≠ l := fun z => by
        rw [z, upd_same] at a1
        cases a1
      rw [upd_ne hne] at a1
      refine ⟨⟨⟨a1, a2, a3, a5⟩, (ih hr).1⟩, fun q hq => ?_⟩
      rcases List.mem_cons.mp hq with e | hq
      · subst e
        exact hne
      · exact (ih hr).2 q hq
  refine ⟨s.n.h l _ upd_same, s.n.nw l hb ⟨_, upd_same, rfl⟩, ⟨s.s, (hn s.h).1, s.l, ⟨s.n.ok, s.n.b, (Ex.new h0).trans s.n.h, fun a ha hh => s.n.nw a ha ?_⟩⟩, (hn s.h).2⟩
  · by_cases e : a = l
    · subst e
      exact absurd h0 hh.ne
    · obtain ⟨u, hu, hc⟩ := hh
      exact ⟨u, by rw [upd_ne e]; exact hu, hc⟩
theorem b0_none {l : Addr} (n : Nx B0 H0 B H) (h : B l = none) : B0 l = none := n.b.s l h
/-- the whole comprehension: at its end the list is one's own -/
theorem lc_own {wi : TI} {vs : List Nat} {P0 : List Da → Mu → Prop} {I : List Da → Nat → List Da → Mu → Prop}
    (hi : EvYI K B0 H0 Γ M wi P0) (hl : ∀ ds M1, P0 ds M1 → ds.length ≤ 500000 ∧ I ds 0 [] M1) (hj : j ∈ vs) (hk : ∀ ds i acc M1, I ds i acc M1 → ∀ m ∈ M1, ∀ k ∈ vs, m.1 ≠ some k) (hz : ∀ ds i acc M1, I ds i acc M1 → acc.length ≤ i)
    (hb : ∀ H0 ds M0 i d acc M1, P0 ds M0 → ds[i]? = some d → I ds i acc M1 → EvYB K B0 H0 ((wipeG Γ vs).set j (some d)) M1 tt (fun b M2 => if b = true then EvY K B0 H0 ((wipeG Γ vs).set j (some d)) M2 te (fun d2 M3 => I ds (i + 1) (acc ++ [d2]) M3) else I ds (i + 1) acc M2))
    (s : Stt K B0 H0 Γ M σ B H) (Q : VK) (q : ∀ ds M0 acc M1 D B2 H2, P0 ds M0 → I ds ds.length acc M1 → Ex B B2 → Stt K B0 H0 Γ ((none, D, acc) :: M1) σ B2 H2 → Q (.ref D) H2) : tLc wi (gName j) tt te vs σ H Q :=
  hi σ B H s _ fun ds M0 J B1 H1 p0 e1 s1 w D hD => by
    have hlen := (hl ds M0 p0).1
    have n2 : Nx B1 H1 B1 (upd H1 D (.lst [])) := .out s1.ok hD
    have s2 := s1.nx n2
    have sD : Stt K B0 H0 Γ ((none, D, []) :: M0) σ B1 (upd H1 D (.lst [])) := ⟨s2.s, ⟨⟨h0_none s1.n hD, fresh_back s1.ok hD, ⟨[], upd_same, rfl⟩, s1.h.fresh hD⟩, s2.h⟩, fun m hm k hk => by
      rcases List.mem_cons.mp hm with e | hm
      · subst e
        cases hk
      · exact s2.l m hm k hk, s2.n⟩
    refine ⟨fun i m H' => m = ds.length - i ∧ i ≤ ds.length ∧ ∃ (B' : Hp) (acc : List Da) (M' : Mu), Ex B1 B' ∧ I ds i acc M' ∧ Stt K B0 H0 Γ ((none, D, acc) :: M') σ B' H',
      ⟨ds.length, by simp, Nat.zero_le _, B1, [], M0, .refl _, (hl ds M0 p0).2, sD⟩, ?_⟩
    rintro i m H' ⟨rfl, hi, B', acc, M', eB, hI, s'⟩
    by_cases hlt : i < ds.length
    · refine .inr ⟨w.goes i H' hlt (eB.trans s'.ok), fun H'' => ∃ (B' : Hp) (acc : List Da) (M' : Mu), Ex B1 B' ∧ I ds (i + 1) acc M' ∧ Stt K B0 H0 Γ ((none, D, acc) :: M') σ B' H'', fun H'' z => ⟨ds.length - (i + 1), by omega, rfl, hlt, z⟩, fun x H'' y => ?_⟩
      obtain ⟨B3, n3, rx⟩ := w.yld i B' H' x H'' ds[i] (by simp [hlt]) eB s'.ok y
      have s3 := s'.nx n3
      obtain ⟨xs, ra, hH, hB, h0, so⟩ := s3.over (xs := [])
      have hB0 : B0 D = none := b0_none s3.n hB
      have hkk := hk ds i acc M' hI
      have same : ∀ m ∈ M', ∀ k, m.1 = some k → ((wipe σ vs).set j (some x))[k]? = some (some (.ref m.2.1)) := fun m hm k hkm => by
        have h1 : k ∉ vs := fun z => hkk m hm k z hkm
        rw [List.getElem?_set_ne (fun e => h1 (by rw [← e]; exact hj)), wipe_get, if_neg (fun z => h1 z.1)]
        exact so.l m hm k hkm
      have st : Stt K B0 (upd H0 D (.lst xs)) ((wipeG Γ vs).set j (some ds[i])) M' ((wipe σ vs).set j (some x)) B3 H'' := ⟨((so.s.wipe vs).set j rx), so.h, same, so.n⟩
      have backS : ∀ {M4 : Mu} {B4 H4 : Hp}, Ex B3 B4 → Stt K B0 (upd H0 D (.lst xs)) ((wipeG Γ vs).set j (some ds[i])) M4 ((wipe σ vs).set j (some x)) B4 H4 → (∀ m ∈ M4, ∀ k ∈ vs, m.1 ≠ some k) → H4 D = some (.lst xs) ∧ B4 D = none ∧ Stt K B0 H0 Γ ((none, D, acc) :: M4) σ B4 H4 := fun {M4 B4 H4} e4 s4 hk4 => by
        obtain ⟨q1, q2, q3, q4⟩ := s4.back (o := none) h0 hB0
        refine ⟨q1, q2, s3.s.mono e4, ⟨⟨h0, q2, ⟨xs, q1, RpA.mono e4 _ _ ra⟩, q4⟩, q3.h⟩, fun m hm k hkm => ?_, q3.n⟩
        rcases List.mem_cons.mp hm with e | hm
        · subst e
          cases hkm
        · have := q3.l m hm k hkm
          have h1 : k ∉ vs := fun z => hk4 m hm k z hkm
          rw [List.getElem?_set_ne (fun e => h1 (by rw [← e]; exact hj)), wipe_get, if_neg (fun z => h1 z.1)] at this
          exact this
      refine ⟨wipe_back hj, hb _ ds M0 i ds[i] acc M' p0 (by simp [hlt]) hI _ B3 H'' st _ fun b M4 B4 H4 p4 e4 s4 => ?_⟩
      cases b with
      | false =>
        rw [if_neg Bool.false_ne_true] at p4 ⊢
        exact ⟨B4, acc, M4, eB.trans (n3.b.trans e4), p4, (backS e4 s4 (hk ds (i + 1) acc M4 p4)).2.2⟩
      | true =>
        rw [if_pos rfl] at p4 ⊢
        refine p4 _ B4 H4 s4 _ fun d2 M5 z B5 H5 p5 e5 s5 rz => ?_
        obtain ⟨q1, q2, q3⟩ := backS (e4.trans e5) s5 (hk ds (i + 1) _ M5 p5)
        refine ⟨xs, q1, size_lt ?_, B5, acc ++ [d2], M5, eB.trans (n3.b.trans (e4.trans e5)), p5, ?_⟩
        · rw [ra.length]
          have := hz ds i acc M' hI
          omega
        · have := q3.put (j := 0) (xs := xs ++ [z]) (ds2 := acc ++ [d2]) rfl ((RpA.mono (e4.trans e5) _ _ ra).append (.one rz))
          exact this
    · have ei : i = ds.length := by omega
      subst ei
      exact .inl ⟨w.stops H' (eB.trans s'.ok), q ds M0 acc M' D B' H' p0 hI (e1.trans eB) s'⟩
theorem y_lc {wi : TI} {vs : List Nat} {P0 : List Da → Mu → Prop} {I : List Da → Nat → List Da → Mu → Prop} {P : Da → Mu → Prop}
    (hi : EvYI K B0 H0 Γ M wi P0) (hl : ∀ ds M1, P0 ds M1 → ds.length ≤ 500000 ∧ I ds 0 [] M1) (hj : j ∈ vs) (hk : ∀ ds i acc M1, I ds i acc M1 → ∀ m ∈ M1, ∀ k ∈ vs, m.1 ≠ some k) (hz : ∀ ds i acc M1, I ds i acc M1 → acc.length ≤ i)
    (hb : ∀ H0 ds M0 i d acc M1, P0 ds M0 → ds[i]? = some d → I ds i acc M1 → EvYB K B0 H0 ((wipeG Γ vs).set j (some d)) M1 tt (fun b M2 => if b = true then EvY K B0 H0 ((wipeG Γ vs).set j (some d)) M2 te (fun d2 M3 => I ds (i + 1) (acc ++ [d2]) M3) else I ds (i + 1) acc M2))
    (he : ∀ ds M0 acc M1, P0 ds M0 → I ds ds.length acc M1 → P (.lst acc) M1) : EvY K B0 H0 Γ M (tLc wi (gName j) tt te vs) P := fun σ B H s Q q =>
  lc_own hi hl hj hk hz hb s Q fun ds M0 acc M1 D B2 H2 p0 hI e2 s2 => by
    obtain ⟨xs, ra, hH, hB, s3⟩ := s2.frz (j := 0) rfl
    exact q (.lst acc) M1 (.ref D) _ H2 (he ds M0 acc M1 p0 hI) (e2.trans (.new hB)) s3 ⟨D, xs, rfl, upd_same, RpA.mono (.new hB) _ _ ra⟩
/-- x = [..], a list of one's own from then on -/
theorem p_lcOwn {i : Nat} {wi : TI} {vs : List Nat} {P0 : List Da → Mu → Prop} {I : List Da → Nat → List Da → Mu → Prop} (hΓ : (Γ[i]?).isSome = true)
    (hi : EvYI K B0 H0 Γ M wi P0) (hl : ∀ ds M1, P0 ds M1 → ds.length ≤ 500000 ∧ I ds 0 [] M1) (hj : j ∈ vs) (hk : ∀ ds i acc M1, I ds i acc M1 → ∀ m ∈ M1, ∀ k ∈ vs, m.1 ≠ some k) (hz : ∀ ds i acc M1, I ds i acc M1 → acc.length ≤ i)
    (hb : ∀ H0 ds M0 i d acc M1, P0 ds M0 → ds[i]? = some d → I ds i acc M1 → EvYB K B0 H0 ((wipeG Γ vs).set j (some d)) M1 tt (fun b M2 => if b = true then EvY K B0 H0 ((wipeG Γ vs).set j (some d)) M2 te (fun d2 M3 => I ds (i + 1) (acc ++ [d2]) M3) else I ds (i + 1) acc M2))
    (he : ∀ ds M0 acc M1 l, P0 ds M0 → I ds ds.length acc M1 → (∀ m ∈ M1, m.1 ≠ some i) ∧ post (.nx (Γ.set i none) ((some i, l, acc) :: M1))) : EvP K B0 H0 Γ M (tAsg (tLc wi (gName j) tt te vs) (gName i)) post := fun σ B H D s f =>
  lc_own hi hl hj hk hz hb s _ fun ds M0 acc M1 l B2 H2 p0 hI e2 s2 => by
    obtain ⟨h1, h2⟩ := he ds M0 acc M1 l p0 hI
    refine f _ h2 _ B2 H2 e2 ⟨s2.s.set0 i, s2.h, fun m hm k hkm => ?_, s2.n⟩
    rcases List.mem_cons.mp hm with e | hm
    · subst e
      cases (Option.some.inj hkm : i = k)
      have : i < σ.length := by
        rw [s2.s.len]
        cases e : Γ[i]? with
        | none => rw [e] at hΓ; cases hΓ
        | some x => exact (List.getElem?_eq_some_iff.mp e).1
      simp [this]
    · rw [List.getElem?_set_ne (fun e => h1 m hm (by rw [hkm, e]))]
      exact s2.l m (List.mem_cons_of_mem _ hm) k hkm
end
end Fo

/-! Fo16: a row that is a list or a tuple by index and length; is of booleans; in of flat rows; what raises, over EvP -/
namespace Fo
open PySem PySem.Spec PyProof.Rows L2
open Evl (ixN_nat)
variable [Nm]
def rIxE (K : PySem.W.Frag) : R2 := fun x y H Q => rIxL K x y H Q ∨ rIxT K x y H Q
abbrev rIsBl : R2 := fun x y H Q => ∃ a b, x = .bl a ∧ y = .bl b ∧ Q (.bl (decide (a = b))) H
abbrev rNotBl : R2 := fun x y H Q => ∃ a b, x = .bl a ∧ y = .bl b ∧ Q (.bl (!decide (a = b))) H
section
variable {K : PySem.W.Frag} {B0 H0 B H B2 H2 B3 H3 : Hp} {Γ Γ1 Γ2 : Sls} {M M1 M2 : Mu} {te ta tb : TE} {tt ttb : TT} {t u tu t1 t2 : TS} {d d1 d2 : Da} {σ σ2 : L2.St} {i j k : Nat} {ds : List Da} {r : R2} {tr : TA} {post : Ou → Prop}
theorem g_ixE {pl : Da} {i : Int} (ha : EvG K Γ ta pl) (hr : pl = .lst ds ∨ pl = .tup ds) (hb : EvG K Γ tb (.int i)) (h : atI ds i = some d) : EvG K Γ (tOp (fun x y H Q => rIxL K x y H Q ∨ rIxT K x y H Q) ta tb) d := g_op ha hb fun B H vx vy e rx ry Q k => by
  rcases hr with rfl | rfl
  · obtain ⟨a, xs, rfl, h1, h2⟩ := rx
    obtain ⟨x, h3, h4⟩ := atI_rp h2 h
    exact .inl ⟨a, xs, i, x, rfl, ry, sq1 e h1, h3, k.now e h4⟩
  · obtain ⟨a, xs, rfl, h1, h2⟩ := rx
    obtain ⟨x, h3, h4⟩ := atI_rp h2 h
    exact .inr ⟨a, xs, i, x, rfl, ry, ex_t e h1, h3, k.now e h4⟩
theorem c_lenE {pl : Da} (hr : pl = .lst ds ∨ pl = .tup ds) : RGC K (rLenQ K) [pl] (.int ds.length) := by
  rcases hr with rfl | rfl
  · exact c_lenL
  · exact c_lenT
theorem rg_is {a b : Bool} : RG K rIsBl (.bl a) (.bl b) (.bl (decide (a = b))) := fun B H vx vy e rx ry Q k => ⟨a, b, rx, ry, k.now e rfl⟩
theorem rg_isnot {a b : Bool} : RG K rNotBl (.bl a) (.bl b) (.bl (!decide (a = b))) := fun B H vx vy e rx ry Q k => ⟨a, b, rx, ry, k.now e rfl⟩
theorem g_isB {a b : Bool} (ha : EvG K Γ ta (.bl a)) (hb : EvG K Γ tb (.bl b)) : EvG K Γ (tOp rIsBl ta tb) (.bl (decide (a = b))) := g_op ha hb rg_is
theorem g_isnotB {a b : Bool} (ha : EvG K Γ ta (.bl a)) (hb : EvG K Γ tb (.bl b)) : EvG K Γ (tOp rNotBl ta tb) (.bl (!decide (a = b))) := g_op ha hb rg_isnot
/-- in, of numbers -/
theorem flat_ints (ns : List Int) : (ns.map V.int).all flatV = true := by
  rw [List.all_map, List.all_eq_true]
  intro x _
  rfl
theorem inV_ints (x : Int) (ns : List Int) : inV (.int x) (ns.map V.int) = decide (x ∈ ns) := by
  unfold inV
  rw [List.any_map, Bool.eq_iff_iff, List.any_eq_true, decide_eq_true_iff]
  constructor
  · rintro ⟨y, hy, h⟩
    have : y = x := by simpa [eqV] using h
    rw [← this]
    exact hy
  · intro h
    exact ⟨x, h, by simp [eqV]⟩
theorem rg_inI {x : Int} {ns : List Int} {neg : Bool} (hd : d = .lst (ns.map Da.int) ∨ d = .tup (ns.map Da.int)) : RG K (rIn K neg) (.int x) d (.bl (if neg then !decide (x ∈ ns) else decide (x ∈ ns))) := fun B H vx vy e rx ry Q k => by
  obtain rfl : vx = .int x := rx
  have key : ∀ a xs, vy = .ref a → (SqL K H a xs ∨ SqT K H a xs) → RpA K B (ns.map Da.int) xs → rIn K neg (.int x) vy H Q := fun a xs e1 h1 h2 => by
    obtain rfl := RpA.ints_of h2
    refine ⟨a, _, e1, h1, rfl, flat_ints ns, ?_⟩
    rw [inV_ints]
    exact k.now e rfl
  rcases hd with rfl | rfl
  · obtain ⟨a, xs, e1, h1, h2⟩ := ry
    exact key a xs e1 (.inl (sq1 e h1)) h2
  · obtain ⟨a, xs, e1, h1, h2⟩ := ry
    exact key a xs e1 (.inr (ex_t e h1)) h2
/-- a, b = e1, e2 -/
theorem p_par {i2 : Nat} {P : List Da → Mu → Prop} (h : EvYS K B0 H0 Γ M tr P) (hk : ∀ es M1, P es M1 → ∃ a b, es = [a, b] ∧ (∀ m ∈ M1, m.1 ≠ some i ∧ m.1 ≠ some i2) ∧ post (.nx ((Γ.set i (some a)).set i2 (some b)) M1)) : EvP K B0 H0 Γ M (tPar i i2 tr) post := fun σ B H D s f =>
  h σ B H s _ fun es M1 vs B2 H2 p e2 s2 r => by
    obtain ⟨a, b, rfl, hi, hp⟩ := hk es M1 p
    obtain ⟨x1, x2, rfl, r1, r2⟩ := rpa2 r
    exact ⟨x1, x2, rfl, f _ hp _ B2 H2 e2 ((s2.set r1 fun m hm => (hi m hm).1).set r2 fun m hm => (hi m hm).2)⟩
theorem p_seqN (h : EvP K B0 H0 Γ M t (fun o => o = .nx Γ1 M1)) (h2 : EvP K B0 H0 Γ1 M1 u post) : EvP K B0 H0 Γ M (tSeq t u) post := p_seq (p_imp h fun o e => by
  subst e
  exact h2)
/-- a raise -/
theorem p_mal {CM CR : Addr} {E : XK} {W : WX} (hE : RaE CM CR .mal H0 E) (hW : ∀ cls d σ H, E cls d H → W cls d σ H) : EvP K B0 H0 Γ M (fun _ σ H => W (.ref CM) none σ H) post := fun σ B H D s f => hW _ _ _ _ (hE H s.n.h)
theorem p_ref {CM C : Addr} {r : Str} {E : XK} (hE : RaE CM C (.ref r) H0 E) : EvP K B0 H0 Γ M (fun _ σ H => tMkO C (spRef K C) [] (tCons (tC (.str r)) tNil) σ H fun cls d H' => E cls d H') post := fun σ B H D s f => ref_made (hE.mono s.n.h)
theorem y_callR {CM CR : Addr} {E : XK} {f : List Da → Da → Prop} {g : List Da → Ra → Prop} {P1 : List Da → Mu → Prop} {P : Da → Mu → Prop} (h : EvYS K B0 H0 Γ M tr P1) (hf : ∀ ds M1, P1 ds M1 → ∃ d, f ds d ∧ P d M1) : EvY K B0 H0 Γ M (tCall (PuR K CM CR f g) [] E tr) P := fun σ B H s Q q =>
  h σ B H s _ fun ds M1 vs B1 H1 p1 e1 s1 r1 => by
    obtain ⟨d, hd, hp⟩ := hf ds M1 p1
    rw [List.append_nil]
    exact ⟨B1, ds, s1.ok, r1, .inl ⟨d, hd, fun v B2 H2 n2 r2 => q d M1 v B2 H2 hp (e1.trans n2.b) (s1.nx n2) r2⟩⟩
/-- a def that raises, called where it does: nothing comes behind it -/
theorem y_badR {CM CR : Addr} {E : XK} {f : List Da → Da → Prop} {g : List Da → Ra → Prop} {b : Ra} {P : Da → Mu → Prop} (h : EvS K Γ tr ds) (hg : g ds b) (hE : RaE CM CR b H0 E) : EvY K B0 H0 Γ M (tCall (PuR K CM CR f g) [] E tr) P := fun σ B H s Q q =>
  bad_callR h hg s.s s.ok (hE.mono s.n.h)
theorem y_badMk {CM CR C : Addr} {E : XK} {f : List Da → List Str → List Da → Prop} {g : List Da → Ra → Prop} {b : Ra} {P : Da → Mu → Prop} (h : EvS K Γ tr ds) (hg : g ds b) (hE : RaE CM CR b H0 E) : EvY K B0 H0 Γ M (tMake C (PuIR K CM CR C f g) [] E tr) P := fun σ B H s Q q =>
  bad_makeR h hg s.s s.ok (hE.mono s.n.h)
/-- a def's body that raises or answers -/
theorem bodyR {D : Ends} (h : EvP K B H Γ [] t post) (hs : Sl K B Γ σ) (e : Ex B H) (hp : ∀ o, post o → False) : t D σ H :=
  h σ B H D ⟨hs, trivial, (fun m hm => nomatch hm), .refl e⟩ fun o po => (hp o po).elim
/-- what draws nothing is an expression of data -/
theorem g_ofY (h : ∀ B0 H0, EvY K B0 H0 Γ [] te (fun d' M' => d' = d ∧ M' = [])) : EvG K Γ te d := fun σ B H hs e Q k =>
  h B H σ B H ⟨hs, trivial, (fun m hm => nomatch hm), .refl e⟩ Q fun d' M' v B2 H2 ⟨e1, e2⟩ _ s r => by
    subst e1
    exact k v B2 H2 s.n r
theorem yb_imp {P P2 : Bool → Mu → Prop} (h : EvYB K B0 H0 Γ M tt P) (hp : ∀ d M', P d M' → P2 d M') : EvYB K B0 H0 Γ M tt P2 := fun σ B H s Q q => h σ B H s Q fun d M' B2 H2 p => q d M' B2 H2 (hp d M' p)
/-- a comprehension over a row of any things that stand for data -/
theorem g_lcA {α : Type} {wi : TI} {vs : List Nat} {l : List α} (g : α → Da) (p : α → Bool) (v : α → Da) (hi : EvI K Γ wi (l.map g)) (hl : l.length ≤ 500000) (hw : j ∈ vs)
    (hb : ∀ x, x ∈ l → EvB K ((wipeG Γ vs).set j (some (g x))) tt (p x) ∧ (p x = true → EvG K ((wipeG Γ vs).set j (some (g x))) te (v x))) : EvG K Γ (tLc wi (gName j) tt te vs) (.lst ((l.filter p).map v)) := g_ofY fun B0 H0 => by
  refine y_lc (P0 := fun ds M' => ds = l.map g ∧ M' = []) (I := fun ds i acc M' => acc = ((l.take i).filter p).map v ∧ M' = []) (yi_of hi ⟨rfl, rfl⟩) (fun ds M1 ⟨e1, e2⟩ => ⟨by rw [e1, List.length_map]; exact hl, rfl, e2⟩) hw (fun ds i acc M1 ⟨e1, e2⟩ m hm => by rw [e2] at hm; cases hm) (fun ds i acc M1 ⟨e1, e2⟩ => ?_) (fun H0 ds M0 i d acc M1 ⟨e1, e2⟩ hd ⟨e3, e4⟩ => ?_) (fun ds M0 acc M1 ⟨e1, e2⟩ ⟨e3, e4⟩ => ⟨?_, e4⟩)
  · rw [e1, List.length_map]
    have := List.length_filter_le p (l.take i)
    rw [List.length_take] at this
    omega
  · subst e1
    subst e4
    rw [List.getElem?_map] at hd
    obtain ⟨x, hx, rfl⟩ := Option.map_eq_some_iff.mp hd
    obtain ⟨h1, h2⟩ := hb x (List.mem_of_getElem? hx)
    obtain ⟨hlt, ex⟩ := List.getElem?_eq_some_iff.mp hx
    refine yb_of h1 ?_
    rw [take_snoc hlt, ex, List.filter_append, List.map_append, List.filter_cons]
    cases hp : p x with
    | true =>
      rw [if_pos rfl, if_pos rfl]
      exact y_of (h2 hp) ⟨by rw [e3]; rfl, rfl⟩
    | false =>
      rw [if_neg Bool.false_ne_true, if_neg Bool.false_ne_true]
      exact ⟨by rw [e3]; simp, rfl⟩
  · subst e1
    rw [e3, List.length_map, List.take_length]
theorem yi_rng1N {ts : TA} {P : List Da → Mu → Prop} (h : EvYS K B0 H0 Γ M ts (fun es M' => ∃ n : Nat, es = [.int (n : Int)] ∧ n ≤ 1000 ∧ P ((List.range n).map fun x : Nat => Da.int (x : Int)) M')) : EvYI K B0 H0 Γ M (iRng1 ts) P := fun σ B H s R q =>
  h σ B H s _ fun es M' vs B2 H2 ⟨n, e1, hn, hp⟩ e2 s2 r => by
    subst e1
    obtain ⟨x, rfl, rx⟩ := rpa1 r
    obtain rfl : x = .int (n : Int) := rx
    refine ⟨(n : Int), rfl, by omega, by omega, q _ M' _ B2 H2 hp e2 s2 ?_⟩
    have w : WalkD K (Itr 0 ((n : Int)).toNat) B2 (rng 0 ((n : Int)).toNat) := walk_rng
    have e : rng 0 (((n : Int)).toNat) = (List.range n).map fun x : Nat => Da.int (x : Int) := by
      unfold rng
      rw [Int.toNat_natCast]
      apply List.map_congr_left
      intro a _
      rw [Int.zero_add]
    rw [e] at w
    exact w
end
end Fo

/-! Fo17: a raw value in a slot; for over what is drawn; a row that stood before -/
namespace Fo
open PySem PySem.Spec PyProof.Rows L2
open Evl (ixN_nat)
variable [Nm]
abbrev rMin2 : List V → Hp → VK → Prop := fun xs H Q => ∃ i j, xs = [V.int i, V.int j] ∧ Q (.int (if j < i then j else i)) H
abbrev rMax2 : List V → Hp → VK → Prop := fun xs H Q => ∃ i j, xs = [V.int i, V.int j] ∧ Q (.int (if j > i then j else i)) H
abbrev rAbs : List V → Hp → VK → Prop := fun xs H Q => ∃ i, xs = [V.int i] ∧ Q (.int (if i < 0 then -i else i)) H
section
variable {K : PySem.W.Frag} {B0 H0 B H B2 H2 B3 H3 : Hp} {Γ Γ1 Γ2 : Sls} {M M1 M2 : Mu} {te ta tb : TE} {tt ttb : TT} {t u tu t1 t2 : TS} {d d1 d2 : Da} {σ σ2 : L2.St} {i j k : Nat} {ds : List Da} {r : R2} {tr : TA} {post : Ou → Prop}
theorem c_min2 {i j : Int} : RGC K rMin2 [.int i, .int j] (.int (if j < i then j else i)) := fun B H vs e r Q k => by
  obtain ⟨x, y, rfl, rx, ry⟩ := rpa2 r
  exact ⟨i, j, by rw [show x = _ from rx, show y = _ from ry], k.now e rfl⟩
theorem c_max2 {i j : Int} : RGC K rMax2 [.int i, .int j] (.int (if j > i then j else i)) := fun B H vs e r Q k => by
  obtain ⟨x, y, rfl, rx, ry⟩ := rpa2 r
  exact ⟨i, j, by rw [show x = _ from rx, show y = _ from ry], k.now e rfl⟩
theorem c_abs {i : Int} : RGC K rAbs [.int i] (.int (if i < 0 then -i else i)) := fun B H vs e r Q k => by
  obtain ⟨x, rfl, rx⟩ := rpa1 r
  exact ⟨i, by rw [show x = _ from rx], k.now e rfl⟩
/-- the slot of a list of one's own, told as it is -/
theorem p_raw {o : Nat} {l : Addr} (hj : M[j]? = some (some o, l, ds)) (h : EvP K B0 H0 (Γ.set o (some (.raw (.ref l)))) M t post) : EvP K B0 H0 Γ M t post := fun σ B H D s f => by
  have hσ := s.l _ (List.mem_of_getElem? hj) o rfl
  have e : σ.set o (some (.ref l)) = σ := by
    apply List.ext_getElem?
    intro m
    by_cases hm : m = o
    · subst hm
      obtain ⟨hk, e⟩ := List.getElem?_eq_some_iff.mp hσ
      rw [List.getElem?_set_self hk, hσ]
    · rw [List.getElem?_set_ne (Ne.symm hm)]
  have hs2 := s.s.set (d := .raw (.ref l)) (v := .ref l) o rfl
  rw [e] at hs2
  exact h σ B H D ⟨hs2, s.h, s.l, s.n⟩ f
/-- a list that is looked at no more -/
theorem p_forget (j : Nat) (h : EvP K B0 H0 Γ (M.eraseIdx j) t post) : EvP K B0 H0 Γ M t post := fun σ B H D s f => h σ B H D ⟨s.s, s.h.drop, fun m hm => s.l m (List.mem_of_mem_eraseIdx hm), s.n⟩ f
/-- a row that stood before, by its address -/
theorem sq_ex {a : Addr} {xs : List V} (e : Ex H0 H) (h : SqL K H0 a xs) : SqL K H a xs := ex_l e h
theorem y_rowLen {a : Addr} {xs : List V} {P : Da → Mu → Prop} (hS : SqL K H0 a xs) (h : EvG K Γ ta (.raw (.ref a))) (hp : P (.int (xs.length : Nat)) M) : EvY K B0 H0 Γ M (tCB (rLenQ K) (tCons ta tNil)) P := fun σ B H s Q q =>
  h σ B H s.s s.ok _ fun v B2 H2 n2 r => by
    obtain rfl : v = .ref a := r
    have s2 := s.nx n2
    exact ⟨a, xs, rfl, .inl (sq_ex s2.n.h hS), q _ M _ B2 H2 hp n2.b s2 rfl⟩
theorem y_rowIx {a : Addr} {ns : List Int} {x : Nat} {z : Int} {P : Da → Mu → Prop} (hS : SqL K H0 a (ns.map V.int)) (h : EvG K Γ ta (.raw (.ref a))) (hi : EvG K Γ tb (.int (x : Int))) (hx : ns[x]? = some z) (hp : P (.int z) M) : EvY K B0 H0 Γ M (tOp (rIxL K) ta tb) P := fun σ B H s Q q =>
  h σ B H s.s s.ok _ fun v B1 H1 n1 r1 => hi σ B1 H1 (s.nx n1).s (s.nx n1).ok _ fun y B2 H2 n2 r2 => by
    obtain rfl : v = .ref a := r1
    obtain rfl : y = .int (x : Int) := r2
    have s2 := (s.nx n1).nx n2
    exact ⟨a, ns.map V.int, (x : Int), .int z, rfl, rfl, sq_ex s2.n.h hS, atI_nat (by rw [List.getElem?_map, hx]; rfl), q _ M _ B2 H2 hp (n1.b.trans n2.b) s2 rfl⟩
theorem p_forY {wi : TI} {P0 : List Da → Mu → Prop} (hi : EvYI K B0 H0 Γ M wi P0) (I : List Da → Nat → Sls → Mu → Prop) (h0 : ∀ ds M0, P0 ds M0 → I ds 0 Γ M0) (hn : ∀ ds i Γ1 M1, I ds i Γ1 M1 → ∀ m ∈ M1, m.1 ≠ some j)
    (hb : ∀ ds M0 i d Γ1 M1, P0 ds M0 → ds[i]? = some d → I ds i Γ1 M1 → EvP K B0 H0 (Γ1.set j (some d)) M1 tu (lopO (I ds (i + 1)) post)) (he : ∀ ds M0 Γ1 M1, P0 ds M0 → I ds ds.length Γ1 M1 → post (.nx Γ1 M1)) : EvP K B0 H0 Γ M (tFor wi (gName j) tu) post := fun σ B H D s f =>
  hi σ B H s _ fun ds M0 J B1 H1 p0 e1 s1 w => by
    refine ⟨fun i m σ' H' => m = ds.length - i ∧ i ≤ ds.length ∧ ∃ B' Γ1 M1, Ex B1 B' ∧ I ds i Γ1 M1 ∧ Stt K B0 H0 Γ1 M1 σ' B' H', ⟨ds.length, by simp, Nat.zero_le _, B1, Γ, M0, .refl _, h0 ds M0 p0, s1⟩, ?_⟩
    rintro i m σ' H' ⟨rfl, hi, B', Γ1, M1, eB, q, s'⟩
    by_cases hlt : i < ds.length
    · refine .inr ⟨w.goes i H' hlt (eB.trans s'.ok), fun σ3 H4 => ∃ B4 Γ1 M1, Ex B1 B4 ∧ I ds (i + 1) Γ1 M1 ∧ Stt K B0 H0 Γ1 M1 σ3 B4 H4, fun σ3 H4 z => ?_, fun x H2 y => ?_⟩
      · obtain ⟨B4, Γ2, M2, e4, q4, s4⟩ := z
        exact ⟨ds.length - (i + 1), by omega, rfl, hlt, B4, Γ2, M2, e4, q4, s4⟩
      · obtain ⟨B2, n2, rx⟩ := w.yld i B' H' x H2 ds[i] (by simp [hlt]) eB s'.ok y
        refine hb ds M0 i ds[i] Γ1 M1 p0 (by simp [hlt]) q _ B2 H2 _ ((s'.nx n2).set rx (hn ds i Γ1 M1 q)) fun o po => ?_
        cases o with
        | nx Γ2 M2 => exact fun σ3 B3 H3 e3 s3 => ⟨B3, Γ2, M2, eB.trans (n2.b.trans e3), po, s3⟩
        | ct Γ2 M2 => exact fun σ3 B3 H3 e3 s3 => ⟨B3, Γ2, M2, eB.trans (n2.b.trans e3), po, s3⟩
        | bk Γ2 M2 => exact fun σ3 B3 H3 e3 s3 => f _ po σ3 B3 H3 ((e1.trans eB).trans (n2.b.trans e3)) s3
        | rt d M2 => exact fun v B3 H3 e3 => f _ po v B3 H3 ((e1.trans eB).trans (n2.b.trans e3))
    · have ei : i = ds.length := by omega
      subst ei
      exact .inl ⟨w.stops H' (eB.trans s'.ok), f _ (he ds M0 Γ1 M1 p0 q) σ' B' H' (e1.trans eB) s'⟩
end
end Fo

namespace Fo
/-! ### the closure is the least transitive one; covers; ends -/
def Trans (R : Rel) : Prop := ∀ x y z, R x y = true → R y z = true → R x z = true
theorem stepR_iff {R : Rel} {m x z : Nat} : stepR R m x z = true ↔ R x z = true ∨ (R x m = true ∧ R m z = true) := by
  unfold stepR
  rw [Bool.or_eq_true, Bool.and_eq_true]
theorem part_step {R : Rel} {m : Nat} (h : ∀ y, y < m → ∀ x z, R x y = true → R y z = true → R x z = true) : ∀ y, y < m + 1 → ∀ x z, stepR R m x y = true → stepR R m y z = true → stepR R m x z = true := by
  intro y hy x z h1 h2
  rw [stepR_iff] at h1 h2 ⊢
  by_cases e : y = m
  · subst e
    right
    refine ⟨?_, ?_⟩
    · rcases h1 with h1 | h1
      · exact h1
      · exact h1.1
    · rcases h2 with h2 | h2
      · exact h2
      · exact h2.2
  · have hlt : y < m := by omega
    rcases h1 with h1 | ⟨h1, h1'⟩
    · rcases h2 with h2 | ⟨h2, h2'⟩
      · exact .inl (h y hlt x z h1 h2)
      · exact .inr ⟨h y hlt x m h1 h2, h2'⟩
    · rcases h2 with h2 | ⟨h2, h2'⟩
      · exact .inr ⟨h1, h y hlt m z h1' h2⟩
      · exact .inr ⟨h1, h2'⟩
theorem part_fold (R : Rel) : ∀ n, ∀ y, y < n → ∀ x z, (List.range n).foldl stepR R x y = true → (List.range n).foldl stepR R y z = true → (List.range n).foldl stepR R x z = true
  | 0 => fun y hy => by omega
  | n + 1 => by
    rw [List.range_succ, List.foldl_append]
    exact part_step (part_fold R n)
theorem trans_clos {n : Nat} {ps : List (Nat × Nat)} (h : ∀ p ∈ ps, p.1 < n ∧ p.2 < n) : Trans (clos n ps) := fun x y z h1 h2 => part_fold (initR ps) n y (in_clos h x y h1).2 x z h1 h2
theorem fold_least {T : Rel} (hT : Trans T) : ∀ (l : List Nat) {R : Rel}, (∀ x y, R x y = true → T x y = true) → ∀ x y, l.foldl stepR R x y = true → T x y = true
  | [], _, h => h
  | m :: l, R, h => fold_least hT l fun x y e => by
    rw [stepR_iff] at e
    rcases e with e | ⟨e1, e2⟩
    · exact h x y e
    · exact hT x m y (h x m e1) (h m y e2)
theorem clos_least {n : Nat} {ps : List (Nat × Nat)} {T : Rel} (hT : Trans T) (h : ∀ p ∈ ps, T p.1 p.2 = true) : ∀ x y, clos n ps x y = true → T x y = true := fold_least hT _ fun x y e => by
  unfold initR at e
  exact h _ (List.contains_iff_mem.mp e)
theorem fold_more : ∀ (l : List Nat) {R : Rel} {x y : Nat}, R x y = true → l.foldl stepR R x y = true
  | [], _, _, _, h => h
  | m :: l, _, _, _, h => fold_more l (stepR_iff.mpr (.inl h))
theorem clos_pair {n : Nat} {ps : List (Nat × Nat)} {p : Nat × Nat} (h : p ∈ ps) : clos n ps p.1 p.2 = true := fold_more _ (List.contains_iff_mem.mpr h)
/-- no point between -/
def Cov (R : Rel) (x y : Nat) : Prop := R x y = true ∧ ∀ z, ¬ (R x z = true ∧ R z y = true)
theorem clos_covers {n : Nat} {R : Rel} {pos : Nat → Nat} {cs : List (Nat × Nat)} (hT : Trans R) (hI : In n R) (hU : Up pos R) (h1 : ∀ p ∈ cs, R p.1 p.2 = true) (h2 : ∀ x y, Cov R x y → (x, y) ∈ cs) : clos n cs = R := by
  have hin : ∀ p ∈ cs, p.1 < n ∧ p.2 < n := fun p hp => hI _ _ (h1 p hp)
  have hC := trans_clos hin
  have h3 : ∀ k x y, pos y - pos x ≤ k → R x y = true → clos n cs x y = true := by
    intro k
    induction k with
    | zero =>
      intro x y hk hr
      have := hU x y hr
      omega
    | succ k ih =>
      intro x y hk hr
      by_cases hz : ∃ z, R x z = true ∧ R z y = true
      · obtain ⟨z, hz1, hz2⟩ := hz
        have := hU x z hz1
        have := hU z y hz2
        exact hC x z y (ih x z (by omega) hz1) (ih z y (by omega) hz2)
      · exact clos_pair (h2 x y ⟨hr, fun z hz' => hz ⟨z, hz'⟩⟩)
  funext x y
  rw [Bool.eq_iff_iff]
  exact ⟨fun h => clos_least hT h1 x y h, fun h => h3 _ x y (Nat.le_refl _) h⟩
theorem least_at (pos : Nat → Nat) : ∀ n, 0 < n → ∃ x, x < n ∧ ∀ y, y < n → pos x ≤ pos y
  | 0, h => by omega
  | n + 1, _ => by
    by_cases hn : 0 < n
    · obtain ⟨x, hx, h⟩ := least_at pos n hn
      by_cases hl : pos x ≤ pos n
      · exact ⟨x, by omega, fun y hy => by
          by_cases e : y = n
          · rw [e]; exact hl
          · exact h y (by omega)⟩
      · exact ⟨n, by omega, fun y hy => by
          by_cases e : y = n
          · rw [e]; exact Nat.le_refl _
          · have := h y (by omega)
            omega⟩
    · exact ⟨0, by omega, fun y hy => by
        have : y = 0 := by omega
        rw [this]; exact Nat.le_refl _⟩
theorem most_at (pos : Nat → Nat) : ∀ n, 0 < n → ∃ x, x < n ∧ ∀ y, y < n → pos y ≤ pos x
  | 0, h => by omega
  | n + 1, _ => by
    by_cases hn : 0 < n
    · obtain ⟨x, hx, h⟩ := most_at pos n hn
      by_cases hl : pos n ≤ pos x
      · exact ⟨x, by omega, fun y hy => by
          by_cases e : y = n
          · rw [e]; exact hl
          · exact h y (by omega)⟩
      · exact ⟨n, by omega, fun y hy => by
          by_cases e : y = n
          · rw [e]; exact Nat.le_refl _
          · have := h y (by omega)
            omega⟩
    · exact ⟨0, by omega, fun y hy => by
        have : y = 0 := by omega
        rw [this]; exact Nat.le_refl _⟩
theorem low_at {n : Nat} {R : Rel} {pos : Nat → Nat} (hU : Up pos R) (hI : In n R) (hn : 0 < n) : ∃ x, x < n ∧ ∀ y, R y x = false := by
  obtain ⟨x, hx, h⟩ := least_at pos n hn
  refine ⟨x, hx, fun y => ?_⟩
  cases e : R y x with
  | false => rfl
  | true =>
    have := hU y x e
    have := h y (hI y x e).1
    omega
theorem high_at {n : Nat} {R : Rel} {pos : Nat → Nat} (hU : Up pos R) (hI : In n R) (hn : 0 < n) : ∃ x, x < n ∧ ∀ y, R x y = false := by
  obtain ⟨x, hx, h⟩ := most_at pos n hn
  refine ⟨x, hx, fun y => ?_⟩
  cases e : R x y with
  | false => rfl
  | true =>
    have := hU x y e
    have := h y (hI x y e).2
    omega
theorem any_rel {n : Nat} {p : Nat → Bool} : (List.range n).any p = false ↔ ∀ y, y < n → p y = false := by
  rw [List.any_eq_false]
  simp
theorem bits_zero {n : Nat} {p : Nat → Bool} : bitsOf n p = 0 ↔ ∀ y, y < n → p y = false := by
  constructor
  · intro h y hy
    have := bitsOf_test n p y
    rw [h, Nat.zero_testBit] at this
    simpa [hy] using this.symm
  · intro h
    apply Nat.eq_of_testBit_eq
    intro y
    rw [bitsOf_test, Nat.zero_testBit]
    by_cases hy : y < n
    · simp [h y hy]
    · simp [hy]
end Fo

/-! Fo18: reversed lists, index in a row of booleans, and-not; a promise that tells a property of its answer -/
namespace Fo
open PySem PySem.Spec PyProof.Rows L2
open Evl (ixN_nat)
variable [Nm]
def PuA (K : PySem.W.Frag) (pre : List Da → Prop) (post : List Da → Da → Prop) : Sp := fun vs H Q _ => ∃ B ds, Ex B H ∧ RpA K B ds vs ∧ pre ds ∧ ∀ d v B2 H2, post ds d → Nx B H B2 H2 → Rp K B2 d v → Q v H2
section
variable {K : PySem.W.Frag} {B0 H0 B H B2 H2 B3 H3 : Hp} {Γ Γ1 Γ2 : Sls} {M M1 M2 : Mu} {te ta tb to tx : TE} {tt ttb : TT} {t u tu t1 t2 : TS} {d d1 d2 : Da} {σ σ2 : L2.St} {i j k : Nat} {ds : List Da} {r : R2} {tr : TA} {post : Ou → Prop}
theorem y_callA {pre : List Da → Prop} {pA : List Da → Da → Prop} {E : XK} {P1 : List Da → Mu → Prop} {P : Da → Mu → Prop} (h : EvYS K B0 H0 Γ M tr P1) (hf : ∀ ds M1, P1 ds M1 → pre ds ∧ ∀ d, pA ds d → P d M1) : EvY K B0 H0 Γ M (tCall (PuA K pre pA) [] E tr) P := fun σ B H s Q q =>
  h σ B H s _ fun ds M1 vs B1 H1 p1 e1 s1 r1 => by
    obtain ⟨h1, h2⟩ := hf ds M1 p1
    rw [List.append_nil]
    exact ⟨B1, ds, s1.ok, r1, h1, fun d v B2 H2 hp n2 r2 => q d M1 v B2 H2 (h2 d hp) (e1.trans n2.b) (s1.nx n2) r2⟩
theorem bodyA {D : Ends} {pA : Da → Prop} (h : EvP K B H Γ [] t (fun o => ∃ d, o = .rt d [] ∧ pA d)) (hs : Sl K B Γ σ) (e : Ex B H) (k : ∀ d v B2 H2, pA d → Nx B H B2 H2 → Rp K B2 d v → D.rt v H2) : t D σ H :=
  h σ B H D ⟨hs, trivial, (fun m hm => nomatch hm), .refl e⟩ fun o po => by
    obtain ⟨d, rfl, hp⟩ := po
    exact fun v B2 H2 _ _ n r => k d v B2 H2 hp n r
theorem i_rev (h : EvG K Γ ta (.lst ds)) : EvI K Γ (iRev K (tCons ta tNil)) ds.reverse := fun σ B H hs e R k =>
  h σ B H hs e _ fun x B1 H1 n1 rx => by
    obtain ⟨a, xs, rfl, h1, h2⟩ := rx
    have hl := h2.length
    refine ⟨a, xs, rfl, sq1 n1.ok h1, k _ B1 H1 n1 ⟨fun i H hi e2 => ?_, fun H e2 => ?_, fun i B2 H x H2 d hd e2 e3 y => ?_⟩⟩
    · rw [List.length_reverse] at hi
      exact ⟨by omega, xs, xs[xs.length - 1 - i]'(by omega), sq1 e2 h1, by simp⟩
    · show xs.length ≤ _
      rw [List.length_reverse]
      omega
    · obtain ⟨rfl, y⟩ := y
      have hi := (List.getElem?_eq_some_iff.mp hd).1
      rw [List.length_reverse] at hi
      rw [List.getElem?_reverse hi] at hd
      obtain ⟨z, h3, h4⟩ := h2.get hd
      have hx := y xs (sq1 (e2.trans e3) h1)
      rw [hl, h3] at hx
      cases hx
      exact ⟨B2, .refl e3, Rp.mono e2 _ _ h4⟩
theorem g_indexB {bs : List Bool} {j : Nat} (ho : EvG K Γ to (.lst (bs.map Da.bl))) (h1 : bs[j]? = some true) (h2 : ∀ m, m < j → bs[m]? = some false) : EvG K Γ (tBM K "list" (rIndex K) to (tCons (tC (.bl true)) tNil)) (.int (j : Nat)) := fun σ B H hs e Q k =>
  ho σ B H hs e _ fun v B1 H1 n1 r1 => by
    obtain ⟨a, xs, rfl, q1, q2⟩ := r1
    obtain rfl := RpA.bls_of q2
    refine ⟨.inl ⟨rfl, _, sq1 n1.ok q1⟩, ?_⟩
    refine ⟨a, _, .bl true, j, .bl true, rfl, rfl, sq1 n1.ok q1, rfl, ?_, by rw [List.getElem?_map, h1]; rfl, by simp [eqV], fun m z' hm hz => ?_, k _ B1 H1 n1 rfl⟩
    · rw [List.all_map, List.all_eq_true]
      intro z _
      rfl
    · rw [List.getElem?_map, h2 m hm] at hz
      cases hz
      simp [eqV]
theorem and_not_nat (a b : Nat) : Builtin.bitAnd (a : Int) (Builtin.bitNot (b : Int)) = ((a - (a &&& b) : Nat) : Int) := by
  unfold Builtin.bitAnd
  rw [show decide ((0 : Int) ≤ (a : Int)) = true from decide_eq_true (by omega), show decide ((0 : Int) ≤ Builtin.bitNot (b : Int)) = false from decide_eq_false (by unfold Builtin.bitNot; omega)]
  have e : (Builtin.bitNot (Builtin.bitNot (b : Int))).toNat = b := by
    unfold Builtin.bitNot
    omega
  have hle : a &&& b ≤ a := Nat.and_le_left
  show (a : Int) - (((a : Int)).toNat &&& (Builtin.bitNot (Builtin.bitNot (b : Int))).toNat : Nat) = _
  rw [e, Int.toNat_natCast]
  omega
theorem bits_and (n : Nat) (p q : Nat → Bool) : bitsOf n q &&& bitsOf n p = bitsOf n (fun x => q x && p x) := bits_ext (Nat.lt_of_le_of_lt Nat.and_le_left (bitsOf_lt n q)) (bitsOf_lt _ _) fun y hy => by
  rw [Nat.testBit_and, bitsOf_test, bitsOf_test, bitsOf_test, decide_eq_true hy]
  simp
theorem bits_sub : ∀ (n : Nat) (p q : Nat → Bool), bitsOf n q = bitsOf n (fun x => q x && p x) + bitsOf n (fun x => q x && !p x)
  | 0, _, _ => rfl
  | n + 1, p, q => by
    have ih := bits_sub n p q
    unfold bitsOf
    cases hq : q n <;> cases hp : p n <;> simp [hq, hp] <;> omega
theorem bits_minus (n : Nat) (p q : Nat → Bool) : bitsOf n q - (bitsOf n q &&& bitsOf n p) = bitsOf n (fun x => q x && !p x) := by
  rw [bits_and]
  have := bits_sub n p q
  omega
end
end Fo

/-! Fo19: t[::-1], t[a:], tuple(what draws); equality of rows of numbers -/
namespace HandS.TR
open PySem PySem.Spec PyProof PyProof.Rows L2
section
variable {prog : Program} {w : World} {A : Around} {E : Value → Shared → Prop} {s : Shared}
theorem adjust_rev (n : Nat) : Builtin.Slice.sliceAdjust none none (-1) (n : Int) = ((n : Int) - 1, -1) := by
  unfold Builtin.Slice.sliceAdjust
  have h1 : ((-1 : Int) < 0) := by omega
  simp only [h1, if_true]
theorem places_rev (n : Nat) : Builtin.Slice.slicePlaces ((n : Int) - 1) (-1) (-1) = n := by
  unfold Builtin.Slice.slicePlaces
  have h1 : ¬ ((-1 : Int) > 0) := by omega
  simp only [h1, if_false]
  split
  · have : ((n : Int) - 1 - -1 - 1) / (- -1) = (n : Int) - 1 := by
      rw [show (- -1 : Int) = 1 by omega, Int.ediv_one]
      omega
    rw [this]
    omega
  · omega
theorem applied_rev {sl : Addr} {vl vu vs : Value} {n : Nat} {Q : Int × Int × Nat → Shared → Prop} (hs : s.heap.IsSliceOf sl vl vu vs) (pl : IsPart vl none) (pu : IsPart vu none) (ps : IsPart vs (some (-1)))
    (h : Q ((n : Int) - 1, -1, n) s) : wpAny (model prog w) A (Builtin.Slice.sliceApplied (.ref sl) (pure (n : Int))) Q E s := by
  obtain ⟨os, hos, hcs, hds⟩ := id hs
  unfold Builtin.Slice.sliceApplied Builtin.Slice.sliceFields
  refine wpAny_bind (wpAny_bind (wpAny_field hos hds (x := vl) rfl (wpAny_bind (wpAny_field hos hds (x := vu) rfl (wpAny_bind (wpAny_field hos hds (x := vs) rfl (wpAny_pure ?_)))))))
  refine wpAny_bind (HT.slicePart_ ps ?_)
  show wpAny _ _ (if ((-1 : Int) == 0) = true then _ else _) _ _ s
  rw [if_neg (by decide)]
  refine wpAny_bind (HT.slicePart_ pl (wpAny_bind (HT.slicePart_ pu (wpAny_bind (wpAny_pure ?_)))))
  show wpAny _ _ (match Builtin.Slice.sliceAdjust none none (-1) (n : Int) with | (lo, hi) => pure (lo, (-1 : Int), Builtin.Slice.slicePlaces lo hi (-1))) _ _ s
  rw [adjust_rev]
  show wpAny _ _ (pure ((n : Int) - 1, (-1 : Int), Builtin.Slice.slicePlaces ((n : Int) - 1) (-1) (-1))) _ _ s
  rw [places_rev]
  exact wpAny_pure h
theorem pick_rev (xs : Array Value) : ((List.range xs.size).filterMap fun (k : Nat) => xs[(((xs.size : Nat) : Int) - 1 + (k : Int) * (-1)).toNat]?).toArray = xs.toList.reverse.toArray := by
  have e : (fun (k : Nat) => xs[(((xs.size : Nat) : Int) - 1 + (k : Int) * (-1)).toNat]?) = (fun i : Nat => xs[i]?) ∘ fun k => xs.size - 1 - k := by
    funext k
    show xs[_]? = xs[xs.size - 1 - k]?
    congr 1
    omega
  rw [e, ← List.filterMap_map, PySem.W.krv_range, List.filterMap_reverse, PySem.W.krv_all]
theorem getItem_tuple_rev {t sl : Addr} {items : Array Value} {vl vu vs : Value} {Q : Value → Shared → Prop} (ht : IsTup s.heap t items) (hs : s.heap.IsSliceOf sl vl vu vs) (pl : IsPart vl none) (pu : IsPart vu none) (ps : IsPart vs (some (-1)))
    (h : Q (.ref s.heap.objs.size) { s with heap := s.heap.push { cls := .type "tuple", data := .seq items.toList.reverse.toArray } })
    (hsz : items.size ≤ sizeLine) : wpAny (model prog w) A (getItem (.ref t) (.ref sl)) Q E s := by
  have htake : sizeOk (.seq items.toList.reverse.toArray) := by
    show items.toList.reverse.toArray.size ≤ sizeLine
    rw [List.size_toArray, List.length_reverse, Array.length_toList]
    exact hsz
  obtain ⟨os, hos, hcs, hds⟩ := id hs
  have hTs : s.TypeIs (.ref sl) "slice" := ⟨os, hos, hcs⟩
  unfold getItem
  try with_reducible refine wpAny_holding ?_
  first | refine wpAny_bind (wpAny_pure ?_) | skip
  refine wpAny_bind (wpAny_sequenceKey ht.typeIs (by decide) ?_)
  refine wpAny_bind (wpAny_callSpecial?_slot (name := Str.ofString "__getitem__") ht.typeIs PyProof.Rows.slot_tuple_getitem
    (wpAny_call_entry PyProof.Rows.slot_tuple_getitem ht.typeIs entry_tuple_getitem ?_ (args_tuple_getitem _ _)))
  show wpAny _ _ (Builtin.Tuple.tupleItemsOf (.ref t) >>= _) _ _ s
  refine wpAny_bind (tupleItemsOf_ ht ?_)
  refine wpAny_bind (wpAny_typeOf hTs ?_)
  rw [if_pos (by decide)]
  refine wpAny_bind (applied_rev hs pl pu ps ?_)
  have hno : ¬ ((((items.size : Nat) : Int) - 1 == 0 && (-1 : Int) == 1 && items.size == items.size) = true) := by
    rw [show ((-1 : Int) == 1) = false from by decide, Bool.and_false, Bool.false_and]
    exact Bool.false_ne_true
  show wpAny _ _ (if (((items.size : Nat) : Int) - 1 == 0 && (-1 : Int) == 1 && items.size == items.size) = true then _ else _) _ _ s
  rw [if_neg hno, pick_rev]
  first
    | exact wpAny_bind (m := Builtin.Tuple.tupleExact _) (wpAny_newObj_type (wpAny_pure ⟨_, rfl, wpAny_pure h⟩) htake)
    | exact wpAny_bind (m := Builtin.Tuple.tupleExact _) (wpAny_newObj_type (wpAny_bind (wpAny_pure (wpAny_pure ⟨_, rfl, wpAny_pure h⟩))) htake)
    | exact wpAny_bind (wpAny_bind (m := Builtin.Tuple.tupleExact _) (wpAny_newObj_type (wpAny_pure (wpAny_pure ⟨_, rfl, wpAny_pure h⟩)) htake))
    | exact wpAny_bind (wpAny_bind (m := Builtin.Tuple.tupleExact _) (wpAny_newObj_type (wpAny_pure ⟨_, rfl, wpAny_pure h⟩) htake))
end
def tRevT (K : PySem.W.Frag) (te : TE) : TE := fun σ H Q => te σ H fun x H1 => ∃ a xs, x = .ref a ∧ SqT K H1 a xs ∧ ∀ p, H1 p = none → Q (.ref p) (upd H1 p (.tup xs.reverse))
theorem pe_revT {X : Cx} {e : Expr} {te : TE} {k : Nat} {p1 p2 p3 pos : Pos} (he : PE X e te) : PE X (.Subscript e (.Slice none none (some (.UnaryOp .USub (.Constant (.int 1) k p1) p2)) p3) pos) (tRevT X.K te) := by
  refine ⟨fun pins s σ H Q I h => ?_⟩
  refine Subscript_ (thn (he.run pins s σ H _ I h) fun v s1 ⟨x, H1, I1, r1, q1⟩ => ?_)
  obtain ⟨a, xs, ex, hx, q⟩ := q1
  subst ex
  cases r1
  have hst : PO X (some (.UnaryOp .USub (.Constant (.int 1) k p1) p2)) (tPart (tUn (rU fun i => .int (-i)) (tC (.int 1)))) := po_some (pe_un un_neg pe_int)
  refine wpAny_Slice (thn (po_none.run pins s1 σ H1 (fun o H2 => o = none ∧ H2 = H1) I1 ⟨rfl, rfl⟩) fun vl s2 ⟨l, H2, I2, pl, el, e2⟩ => ?_)
  subst el e2
  refine thn (po_none.run pins s2 σ H2 (fun o H3 => o = none ∧ H3 = H2) I2 ⟨rfl, rfl⟩) fun vu s3 ⟨u, H3, I3, pu, eu, e3⟩ => ?_
  subst eu e3
  refine thn (hst.run pins s3 σ H3 (fun o H4 => o = some (-1) ∧ H4 = H3) I3 ⟨1, rfl, -1, rfl, rfl, rfl⟩) fun vs s4 ⟨o, H4, I4, ps, eo, e4⟩ => ?_
  subst eo e4
  have I5 : Inv X pins σ H4 { s4 with heap := s4.heap.push { cls := .type "slice", data := .fields #[vl, vu, vs] } } := I4.kept (t' := s4.toks) fun b ob q => Heap.get?_push_of_some _ q
  obtain ⟨its, r, ht, hz⟩ := I5.tuple hx
  have hlen := r.length
  show wpAny (model X.prog X.w) X.A (subscriptTail e (.Slice none none (some (.UnaryOp .USub (.Constant (.int 1) k p1) p2)) p3) (.ref a) (.ref s4.heap.objs.size)) (EP X pins σ Q) X.xe { s4 with heap := s4.heap.push { cls := .type "slice", data := .fields #[vl, vu, vs] } }
  refine tail_any (ops := [.ref a, .ref s4.heap.objs.size]) ht.typeIs (PyProof.Rows.slot_tuple_getitem.lookup) ?_ (by with_unfolding_all rfl)
  refine getItem_tuple_rev ht (Heap.IsSliceOf.new _ vl vu vs) pl pu ps ?_ (by rw [List.size_toArray]; omega)
  refine ⟨.ref _, _, I5.laid (t' := s4.toks) (o := .tup xs.reverse) (fun b ob q => Heap.get?_push_of_some _ q) (Nat.le_refl _) ?_, rfl, q _ (I5.hok.fresh (Nat.le_refl _))⟩
  exact ⟨by rw [List.length_reverse]; exact hz, _, r.reverse, IsTup.new _ _⟩
end HandS.TR
namespace Fo
open PySem PySem.Spec PyProof.Rows L2 HandS.TR
open Evl (ixN_nat)
variable [Nm]
section
variable {K : PySem.W.Frag} {B0 H0 B H B2 H2 : Hp} {Γ : Sls} {M : Mu} {te ta tb : TE} {d : Da} {ds : List Da}
theorem g_revT (h : EvG K Γ ta (.tup ds)) : EvG K Γ (tRevT K ta) (.tup ds.reverse) := fun σ B H hs e Q k => h σ B H hs e _ fun v B1 H1 n1 r => by
  obtain ⟨a, xs, rfl, h1, h2⟩ := r
  exact ⟨a, xs, rfl, ex_t n1.ok h1, fun p hp => (k.mono n1).tup n1.ok (RpA.reverse h2) hp⟩
/-- t[1:] -/
theorem g_tail (h : EvG K Γ ta (.tup ds)) : EvG K Γ (tSl (rSlA K) ta (tPart (tC (.int 1))) tNoPart) (.tup (ds.drop 1)) := fun σ B H hs e Q k => h σ B H hs e _ fun v B1 H1 n1 r => by
  obtain ⟨a, xs, rfl, h1, h2⟩ := id r
  have h3 := h2.length
  have hlo : HT.sIx xs.length 0 (some 1) = min 1 xs.length := HT.sIx_nat xs.length 0 1
  have hhi : HT.sIx xs.length xs.length none = xs.length := rfl
  refine ⟨1, rfl, a, xs, rfl, ex_t n1.ok h1, fun ⟨q1, _⟩ => ?_, fun _ p hp => (k.mono n1).tup n1.ok ?_ hp⟩
  · rw [hlo] at q1
    have hx : xs = [] := List.eq_nil_of_length_eq_zero (by omega)
    have hd : ds = [] := List.eq_nil_of_length_eq_zero (by rw [← h3, hx]; rfl)
    subst hd
    exact (k.mono n1).now n1.ok r
  · unfold cutV
    rw [hlo, hhi]
    have : ∀ l : List V, (l.drop (min 1 l.length)).take (l.length - min 1 l.length) = l.drop 1 := fun l => by
      cases l with
      | nil => rfl
      | cons a l =>
        rw [show min 1 (a :: l).length = 1 by rw [List.length_cons]; omega]
        exact List.take_of_length_le (by rw [List.length_drop]; exact Nat.le_refl _)
    rw [this]
    exact RpA.drop 1 h2
/-- tuple(what draws) -/
theorem y_tupL {P1 P : Da → Mu → Prop} (h : EvY K B0 H0 Γ M ta P1) (hf : ∀ d M1, P1 d M1 → ∃ es, d = .lst es ∧ P (.tup es) M1) : EvY K B0 H0 Γ M (tThen ta (kTup K)) P := fun σ B H s Q q =>
  h σ B H s _ fun d M1 v B1 H1 p1 e1 s1 r1 => by
    obtain ⟨es, rfl, hp⟩ := hf d M1 p1
    obtain ⟨a, xs, rfl, h1, h2⟩ := r1
    exact .inl ⟨a, xs, rfl, sq1 s1.ok h1, fun p hpn => Goes.tup (K := K) (ds := es) (fun v B2 H2 n2 rv => q (.tup es) M1 v B2 H2 hp (e1.trans n2.b) (s1.nx n2) rv) s1.ok h2 hpn⟩
theorem eqv_int {i j : Int} : PyData.eqv (.int i) (.int j) = decide (i = j) := by
  unfold PyData.eqv
  rw [Bool.eq_iff_iff, decide_eq_true_iff]
  simp
theorem eqv_ns : ∀ (l m : List Int), PyData.eqvAll (toPs (l.map Da.int)) (toPs (m.map Da.int)) = decide (l = m)
  | [], [] => by
    show PyData.eqvAll [] [] = _
    unfold PyData.eqvAll
    rfl
  | [], _ :: _ => by
    show PyData.eqvAll [] (_ :: _) = _
    unfold PyData.eqvAll
    rw [decide_eq_false (fun z => by cases z)]
  | _ :: _, [] => by
    show PyData.eqvAll (_ :: _) [] = _
    unfold PyData.eqvAll
    rw [decide_eq_false (fun z => by cases z)]
  | a :: l, b :: m => by
    show PyData.eqvAll (PyData.int a :: toPs (l.map Da.int)) (PyData.int b :: toPs (m.map Da.int)) = _
    unfold PyData.eqvAll
    rw [eqv_ns l m, eqv_int, Bool.eq_iff_iff, Bool.and_eq_true, decide_eq_true_iff, decide_eq_true_iff, decide_eq_true_iff, List.cons.injEq]
end
end Fo

/-! Fo20: x = [a, ..] as a list of one's own; a statement with one way on -/
namespace Fo
open PySem PySem.Spec PyProof.Rows L2
open Evl (ixN_nat)
variable [Nm]
section
variable {K : PySem.W.Frag} {B0 H0 B H B2 H2 B3 H3 : Hp} {Γ Γ1 Γ2 : Sls} {M M1 M2 : Mu} {te ta tb : TE} {tt ttb : TT} {t u tu t1 t2 : TS} {d d1 d2 : Da} {σ σ2 : L2.St} {i j k : Nat} {ds : List Da} {r : R2} {tr : TA} {post : Ou → Prop}
theorem p_newL (h : EvS K Γ tr ds) (hl : ds.length ≤ 1000000) (hi : (Γ[i]?).isSome = true) (hn : ∀ m ∈ M, m.1 ≠ some i) (hp : ∀ l, post (.nx (Γ.set i none) ((some i, l, ds) :: M))) : EvP K B0 H0 Γ M (tAsg (tLst tr) (gName i)) post := fun σ B H D s f =>
  h σ B H s.s s.ok _ fun xs B1 H1 n1 rs => by
  refine ⟨size_ok (by rw [rs.length]; exact hl), fun l hl2 => ?_⟩
  have s1 := s.nx n1
  have n2 : Nx B1 H1 B1 (upd H1 l (.lst xs)) := .out s1.ok hl2
  have s2 := s1.nx n2
  refine f _ (hp l) _ B1 _ n1.b ⟨s2.s.set0 i, ⟨⟨h0_none s1.n hl2, fresh_back s1.ok hl2, ⟨xs, upd_same, rs⟩, s1.h.fresh hl2⟩, s2.h⟩, fun m hm k hk => ?_, s2.n⟩
  rcases List.mem_cons.mp hm with e | hm
  · subst e
    cases (Option.some.inj hk : i = k)
    have : i < σ.length := by
      rw [s.s.len]
      cases e : Γ[i]? with
      | none => rw [e] at hi; cases hi
      | some x => exact (List.getElem?_eq_some_iff.mp e).1
    simp [this]
  · rw [List.getElem?_set_ne (fun e => hn m hm (by rw [hk, e]))]
    exact s.l m hm k hk
theorem p_seqE (mid : Sls → Mu → Prop) (h : EvP K B0 H0 Γ M t (fun o => ∃ Γ1 M1, o = .nx Γ1 M1 ∧ mid Γ1 M1)) (h2 : ∀ Γ1 M1, mid Γ1 M1 → EvP K B0 H0 Γ1 M1 u post) : EvP K B0 H0 Γ M (tSeq t u) post := p_seq (p_imp h fun o ⟨Γ1, M1, e, hm⟩ => by
  subst e
  exact h2 Γ1 M1 hm)
end
end Fo

set_option maxHeartbeats 2000000
/-! Fo21: a lambda with parameters and captured names, handed to a def -/
namespace Fo
open PySem PySem.Spec PyProof.Rows L2
open LamX (TabS CodeO TabB inv_table)
open NdefX (NF CellsAt NScope startF slotAt ncx envF)
variable [Nm]
section
variable {X : Cx} {pins : List (Addr × Obj)} {σ : L2.St} {H : Hp} {s : Shared}
/-- a table of our heap and one code object more -/
theorem tab_more {P c : Addr} {ps more : Array Value} {q : Str} (hP : H P = some (.tbl ps)) (nC : H c = none) (hq : Nm.nm P = q)
    (hm : TriplesOk (ps ++ more).toList ∧ ∀ pos cv, codeAmong pos (ps ++ more).toList = some cv → cv = .ref c ∨ ∃ c0, cv = .ref c0 ∧ H c0 = some (CodeO c0 q)) :
    Ex H (upd (upd H P (.tbl (ps ++ more))) c (CodeO c q)) ∧ TabS (upd (upd H P (.tbl (ps ++ more))) c (CodeO c q)) P q := by
  have nPc : P ≠ c := ne_of_none hP nC
  have cod : ∀ c0 q0, H c0 = some (CodeO c0 q0) → upd (upd H P (.tbl (ps ++ more))) c (CodeO c q) c0 = some (CodeO c0 q0) := fun c0 q0 h => by
    rw [upd_ne (ne_of_none h nC), upd_ne (fun z => by
      rw [z, hP] at h
      cases h)]
    exact h
  have tP : TabS (upd (upd H P (.tbl (ps ++ more))) c (CodeO c q)) P q := ⟨_, by rw [upd_ne nPc, upd_same], hm.1, fun pos cv hc => by
    rcases hm.2 pos cv hc with e | ⟨c0, e, h⟩
    · exact ⟨c, e, upd_same⟩
    · exact ⟨c0, e, cod c0 q h⟩⟩
  refine ⟨⟨fun a o ho hn => ?_, fun a p2 ha => ?_, fun P2 t2 => ?_⟩, tP⟩
  · have n1 : a ≠ P := fun z => by
      rw [z, hP] at ho
      cases ho
      cases hn
    rw [upd_ne (ne_of_none ho nC), upd_ne n1]
    exact ho
  · by_cases e : a = P
    · exact ⟨_, by rw [e, upd_ne nPc, upd_same]⟩
    · exact ⟨p2, by rw [upd_ne (ne_of_none ha nC), upd_ne e]; exact ha⟩
  · by_cases e : P2 = P
    · rw [e, hq]
      exact tP
    · obtain ⟨p2, a1, a2, a3⟩ := t2
      refine ⟨p2, by rw [upd_ne (ne_of_none a1 nC), upd_ne e]; exact a1, a2, fun pos cv hc => ?_⟩
      obtain ⟨c0, e1, e2⟩ := a3 pos cv hc
      exact ⟨c0, e1, cod c0 _ e2⟩
/-- what is told of the code object of a lambda -/
structure LamC (H1 H2 : Hp) (P c : Addr) : Prop where
  ex : Ex H1 H2
  old : H1 c = none ∨ H1 c = some (CodeO c (Nm.nm P))
  co : H2 c = some (CodeO c (Nm.nm P))
  tab : TabS H2 P (Nm.nm P)
  one : ∀ q, CodeO c (Nm.nm P) = CodeO c q → q = Nm.nm P
theorem lam_made {c P : Addr} {params : Arguments} {body : Expr} {scope : Scope} {pos : Pos} {E : Value → Shared → Prop} {Q : Value → Shared → Prop} (I : Inv X pins σ H s) (TB : TabB X.base X.mg c P) (hcode : X.env.code = .ref c)
    (hq : Nm.nm P = X.env.qual ++ "<lambda>") (hT : TabS H P (Nm.nm P)) (hdef : defaultsOf params X.env = ([], [])) (hfree : ∀ y ∈ scope.names, y.2 = .free → ∃ c, X.env.cells.lookup y.1 = some c)
    (h : ∀ (f c2 : Addr) (pm ctv : Value) (H2 : Hp) (s2 : Shared), Inv X pins σ H2 s2 → LamC H H2 P c2 →
      s2.heap.get? f = some (PySem.W.kla_obj "<lambda>" (Nm.nm P) params body scope (cloFrom X.env.cells scope.names []) pm c2 ctv) → H2 f = none → f ∉ frs X.stack → Q (.ref f) s2) :
    wpAny (model X.prog X.w) X.A (eval (.Lambda params body scope pos) X.env) Q E s := by
  rw [hq] at h
  obtain ⟨ps, hP, h3, hall⟩ := hT
  rw [hq] at hall
  refine PySem.W.kla_eval hdef ?_
  have hbi : s.heap.BuiltinsAt X.mg P := TB.bm.keeps I.bk
  have hPo : s.heap.get? P = some { cls := .none, data := .fields ps } := I.hok _ _ hP
  have notfr : ∀ {z : Addr}, s.heap.objs.size ≤ z → z ∉ frs X.stack := fun {z} hz hm => by
    rcases List.mem_cons.mp (I.stkSub z hm) with e | e
    · have := I.lt
      rw [← e] at this
      exact Nat.lt_irrefl _ (Nat.lt_of_lt_of_le this hz)
    · exact I.nofs hz e
  have one : ∀ {H2 : Hp} {s2 : Shared} {c2 : Addr}, Inv X pins σ H2 s2 → H2 c2 = some (CodeO c2 (X.env.qual ++ "<lambda>")) → ∀ q, CodeO c2 (X.env.qual ++ "<lambda>") = CodeO c2 q → q = X.env.qual ++ "<lambda>" := fun {H2 s2 c2} I2 hc q e => by
    obtain ⟨⟨oc, vs, tk, k1, k2, k3⟩, _⟩ := I2.hok c2 _ hc
    have e2 := HO.ext.inj e
    have k4 := congrFun e2 s2.heap
    have k5 : ∃ (oc : Obj) (vs : Array Value) (t : Tok), s2.heap.get? c2 = some oc ∧ oc.data = .fields vs ∧ vs[1]? = some (.str q t) := by
      rw [← k4]
      exact ⟨oc, vs, tk, k1, k2, k3⟩
    obtain ⟨oc', vs', tk', m1, m2, m3⟩ := k5
    rw [k1] at m1
    cases m1
    rw [k2] at m2
    cases m2
    rw [k3] at m3
    cases m3
    rfl
  cases hc : codeAmong pos ps.toList with
  | some cv =>
    obtain ⟨c2, rfl, hco⟩ := hall pos cv hc
    refine PySem.W.kla_makeFunctionHit (mg := X.mg) (c := c) (P := P) (ps := ps) (closure_ok hfree) I.ok.glob (I.mod.glob.keeps I.bk) hcode (TB.code.keeps I.bk) hPo h3 hc hbi fun ctv g tk hx hsz => ?_
    have I2 : Inv X pins σ H { s with heap := g.push (PySem.W.kla_obj "<lambda>" (X.env.qual ++ "<lambda>") params body scope (cloFrom X.env.cells scope.names []) ((X.mg "__name__").getD .none) c2 ctv), toks := tk } := I.kept fun b o e => Heap.get?_push_of_some _ (hx b o e)
    exact h g.objs.size c2 _ ctv H _ I2 ⟨.refl H, .inr (by rw [hq]; exact hco), by rw [hq]; exact hco, by rw [hq]; exact ⟨ps, hP, h3, hall⟩, by rw [hq]; exact one I2 hco⟩ (Heap.get?_push_size _ rfl) (I.hok.fresh hsz) (notfr hsz)
  | none =>
    refine PySem.W.kla_makeFunction (mg := X.mg) (c := c) (P := P) (ps := ps) (closure_ok hfree) I.ok.glob (I.mod.glob.keeps I.bk) hcode (TB.code.keeps I.bk) hPo h3 hc TB.gP hbi fun c2 ctv g tk hx hge hlt hrec htb => ?_
    obtain ⟨c3, oc, vs, tq, e3, hoc, hd, hv⟩ := hrec
    cases e3
    have hsz : s.heap.objs.size ≤ g.objs.size := by omega
    have nC : H c2 = none := I.hok.fresh hge
    have I2 := inv_table (t' := tk) (more := #[rawInt pos.line, rawInt pos.col, .ref c2]) (h' := g.push (PySem.W.kla_obj "<lambda>" (X.env.qual ++ "<lambda>") params body scope (cloFrom X.env.cells scope.names []) ((X.mg "__name__").getD .none) c2 ctv)) I hP
      (fun b o hb e => Heap.get?_push_of_some _ (hx b o hb e)) (Heap.get?_push_of_some _ htb) hge ⟨oc, vs, tq, Heap.get?_push_of_some _ hoc, hd, hv⟩
    have eL : (ps ++ #[rawInt pos.line, rawInt pos.col, Value.ref c2]).toList = ps.toList ++ [rawInt pos.line, rawInt pos.col, .ref c2] := by simp
    have hm := tab_more (more := #[rawInt pos.line, rawInt pos.col, Value.ref c2]) hP nC hq ⟨by rw [eL]; exact PySem.TriplesOk_snoc _ _ _ _ h3, fun p2 cv hcv => by
      rw [eL] at hcv
      rcases LamX.among_app _ h3 hcv with z | z
      · exact .inr (hall p2 cv z)
      · exact .inl z⟩
    refine h g.objs.size c2 _ ctv _ _ I2 ⟨hm.1, .inl nC, by rw [hq]; exact upd_same, by rw [hq]; exact hm.2, by rw [hq]; exact one I2 upd_same⟩ (Heap.get?_push_size _ rfl) ?_ (notfr hsz)
    rw [upd_ne (Nat.ne_of_gt hlt), upd_ne (Nat.ne_of_gt (Nat.lt_of_lt_of_le (Heap.lt_size hPo) hsz))]
    exact I.hok.fresh hsz
/-! ### the heap as a callee's base: all that is not tracked, but for the frames -/
def baseOf (h : Heap) (H : Hp) (fs : List Addr) : Heap := PySem.W.hideAll h (trk h H ++ fs)
theorem baseOf_get {h : Heap} {fs : List Addr} {b : Addr} {o : Obj} (e : h.get? b = some o) (n : H b = none) (nf : b ∉ fs) : (baseOf h H fs).get? b = some o := PySem.W.hideAll_get _ e fun hm => by
  rcases List.mem_append.mp hm with hm | hm
  · have q := (List.mem_filter.mp hm).2
    rw [n] at q
    cases q
  · exact nf hm
theorem of_baseOf {h : Heap} {fs : List Addr} {b : Addr} {o : Obj} (e : (baseOf h H fs).get? b = some o) : h.get? b = some o ∧ H b = none := by
  have e1 : h.get? b = some o := PySem.W.of_hideAll _ e
  refine ⟨e1, ?_⟩
  cases q : H b with
  | none => rfl
  | some u =>
    have z : (baseOf h H fs).get? b = none := PySem.W.hideAll_none _ (List.mem_append_left _ (List.mem_filter.mpr ⟨List.mem_range.mpr (Heap.lt_size e1), by rw [q]; rfl⟩))
    rw [z] at e
    cases e
theorem base_sub (I : Inv X pins σ H s) : ∀ b o, X.base.get? b = some o → (baseOf s.heap H (frs X.stack)).get? b = some o := fun b o e => baseOf_get (I.bs b o e).1 (I.bs b o e).2 fun hm => by
  rw [(I.stack.mem hm).1] at e
  cases e
theorem base_mod (I : Inv X pins σ H s) : Mod X.K X.mg (baseOf s.heap H (frs X.stack)) := ⟨I.mod.kin.keeps (base_sub I), I.mod.glob.keeps (base_sub I), by
  obtain ⟨mb, h1, h2⟩ := I.mod.blt
  exact ⟨mb, h1.keeps (base_sub I), h2⟩, I.mod.nolimit.keeps (base_sub I)⟩
theorem base_env (I : Inv X pins σ H s) : Env0 X.prog X.w X.K X.mg (baseOf s.heap H (frs X.stack)) X.A X.stack s H :=
  ⟨I.ok.frames, base_mod I, fun b o e => of_baseOf e, Nat.le_of_eq (PySem.W.hideAll_size _ _), PySem.W.funFrames_hide I.stack fun env he a ha => List.mem_append_right _ (List.mem_filterMap.mpr ⟨env, he, ha⟩), I.stkFree, I.hok, I.bare⟩
end
/-! ### a function that stands in the base -/
structure LamOk (P : Program) (w : World) (K : PySem.W.Frag) (mg : Str → Option Value) (base : Heap) (k : Nat) (f c : Addr) (q : Str) (n : Nat) (ws : List V) (sp : Sp) : Prop where
  at_ : PySem.W.FnAt f base
  run : ∀ (A : Around) (outer : List Env) (s : Shared) (H : Hp) (us : List Value) (vs : List V) (Q : VK), Room k A → Env0 P w K mg base A outer s H → H c = some (CodeO c q) → Vals vs us → vs.length = n → sp (ws ++ vs) H Q E0 →
    codeAny (model P w) A (.call (.ref f) ⟨us, []⟩) (CR CX0 outer P w H s Q E0) s
/-- what its captured cells hold -/
structure CellsB (cl : List (Str × Addr)) (fr : List Str) (ws : List V) (base : Heap) : Prop where
  len : ws.length = fr.length
  all : ∀ y c, cl.lookup y = some c → ∃ v, base.IsCell c v
  inj : ∀ x y c, cl.lookup x = some c → cl.lookup y = some c → x = y
  has : ∀ (i : Nat) (y : Str), fr[i]? = some y → ∃ c, cl.lookup y = some c ∧ ∀ v, ws[i]? = some v → ∃ u, L2.RelV v u ∧ base.IsCell c (some u)
section
variable {P : Program} {w : World} {K : PySem.W.Frag} {mg : Str → Option Value} {base : Heap} {k : Nat} {f c : Addr} {q : Str} {ws : List V} {sp : Sp}
theorem lam_ok {params : Arguments} {body : Expr} {scope : Scope} {cl : List (Str × Addr)} {pm ctv : Value} {N ps fr : List Str} (S : NScope N ps fr scope) (hf : base.get? f = some (PySem.W.kla_obj "<lambda>" q params body scope cl pm c ctv)) (C : CellsB cl fr ws base)
    (hb : ∀ us : List Value, us.length = ps.length → bindArgs (PySem.W.kla_fn "<lambda>" q params body scope cl pm (.ref c) ctv) ⟨us, []⟩ = pure (ps.zip us))
    (hbody : ∀ (A : Around) (outer : List Env) (s : Shared) (H : Hp) (vs : List V) (Q : VK), Room k (A.deeper (envF ⟨"<lambda>", q, params, [], scope, cl, c⟩ f s.heap.objs.size)) → vs.length = ps.length → sp (ws ++ vs) H Q E0 →
      ∃ t, PE (ncx CX0 P w K mg base N ⟨"<lambda>", q, params, [], scope, cl, c⟩ f A outer s H E0) body t ∧ t (startF N vs (ws.map some)) H Q) : LamOk P w K mg base (k + 1) f c q ps.length ws sp := by
  refine ⟨⟨_, _, _, _, hf⟩, fun A outer s H us vs Q hr e0 hc r hl hsp => ?_⟩
  have lim : s.heap.NoLimit := e0.mod.nolimit.keeps fun b o e => (e0.bs b o e).1
  have hlu : us.length = ps.length := by rw [← r.length]; exact hl
  refine PySem.W.kla_callFunE hr.depth (e0.bs _ _ hf).1 rfl S.co S.gen rfl (NdefX.codeO_at e0.hok hc) ?_
  rw [hb us hlu]
  refine wpAny_pure (wpAny_newFunctionEnv S.nocell (fun ⟨n, _⟩ hy => S.par n (List.of_mem_zip hy).1) (fun h₁ hns hsb => ⟨lim.fresh _ hsb, ?_⟩) S.kind)
  have kp : ∀ b o, s.heap.get? b = some o → h₁.get? b = some o := fun b o e => hsb.extBut b o (Nat.ne_of_lt (Heap.lt_size e)) (Heap.get?_push_of_some _ e)
  obtain ⟨t, ht, hq⟩ := hbody A outer s H vs Q (hr.deeper _) hl hsp
  have CC : CellsAt cl fr (ws.map some) s.heap H := ⟨by rw [List.length_map]; exact C.len, fun y a e => by
    obtain ⟨v, o, ho, hd⟩ := C.all y a e
    exact ⟨(e0.bs _ _ ho).2, v, o, (e0.bs _ _ ho).1, hd⟩, C.inj, fun i y e => by
    obtain ⟨a, ha, hv⟩ := C.has i y e
    refine ⟨a, ha, fun v ev => ?_⟩
    rw [List.getElem?_map] at ev
    obtain ⟨v2, e1, e2⟩ := Option.map_eq_some_iff.mp ev
    cases e2
    obtain ⟨u, ru, o, ho, hd⟩ := hv v e1
    exact ⟨u, ru, o, (e0.bs _ _ ho).1, hd⟩⟩
  have J := NdefX.inv_startN (CX := CX0) (F := ⟨"<lambda>", q, params, [], scope, cl, c⟩) (f := f) (E := E0) (tk := s.toks + (ps.zip us).length) S hr.hd e0 hl r CC hns kp
  refine PySem.W.kla_codeExpr (wpAny_mono (ht.run [] _ _ H Q J hq) (fun v s' hv => ?_) fun e s' he => he)
  obtain ⟨v', H', J', rv, q'⟩ := hv
  exact ⟨v', H', J'.os, J'.bare, J'.base, J'.hok, rv, q'⟩
end
/-! ### its call -/
def tCallF (i : Nat) (f c : Addr) (q : Str) (n : Nat) (ws : List V) (sp : Sp) (t : TA) : TE := fun σ H Q => σ[i]? = some (some (.ref f)) ∧ t σ H fun vs H1 => vs.length = n ∧ H1 c = some (CodeO c q) ∧ sp (ws ++ vs) H1 Q E0
theorem pe_callF {X : Cx} {k i n : Nat} {f c : Addr} {q x : Str} {ws : List V} {sp : Sp} {e : Expr} {es : List Expr} {t : TA} {p pos : Pos} (L : LamOk X.prog X.w X.K X.mg X.base k f c q n ws sp) (hr : Room k X.A) (hN : X.N[i]? = some x) (hv : Vis X.env.scope x) (ha : PA X (e :: es) t)
    (hdb : (x == ("__debug__" : Str)) = false := by decide) (hcd : (x == ("__classdict__" : Str)) = false := by decide)
    (he : starEach (e :: es) X.env = (false, eval e X.env) :: starEach es X.env := by rfl) (hpl : (backTo pos (starEach es X.env)).any (·.1) = false := by rfl) : PE X (.Call (.Name x p) (e :: es) [] pos) (tCallF i f c q n ws sp t) := by
  refine ⟨fun pins s σ H Q I h => ?_⟩
  obtain ⟨hs, ht⟩ := h
  have fnAt : ∀ {H' : Hp} {s' : Shared}, Inv X pins σ H' s' → PySem.W.FnAt f s'.heap := fun {H' s'} J => by
    obtain ⟨oc, od, fd, sl, e1⟩ := L.at_
    exact ⟨oc, od, fd, sl, J.bk _ _ e1⟩
  refine wpAny_Call_Name_kw (thn ((pe_var (pos := p) hN hv hdb hcd).run pins s σ H (fun v H1 => v = .ref f ∧ H1 = H) I ⟨.ref f, hs, rfl, rfl⟩) fun u s1 ⟨v, H1, I1, r1, e1, e2⟩ => ?_)
  subst e1
  subst e2
  obtain rfl : u = Value.ref f := r1
  refine PySem.W.callWith_F (first := []) (fnAt I1) (thn (ha.run pos pins s1 σ _ _ I1 ht) fun us s2 ⟨vs, H2, I2, r, h1, h2, h3⟩ => ⟨fnAt I2, ?_⟩) he hpl
  refine wpAny_call (codeAny_mono (L.run X.A X.stack s2 H2 us vs Q hr I2.env0 h2 r h1 h3) fun z s' hq => ?_)
  cases z with
  | error e => exact pass0 (X := X) pins σ H2 s2 e s' I2 hq
  | ok fl =>
    cases fl with
    | ret u => exact I2.after hq
    | next => exact False.elim hq
    | brk => exact False.elim hq
    | cont => exact False.elim hq
end Fo

set_option maxHeartbeats 2000000
/-! Fo22: g(e, lambda ..: ..), g a def of the module -/
namespace Fo
open PySem PySem.Spec PyProof.Rows L2
open LamX (TabS CodeO TabB)
open NdefX (NF CellsAt NScope startF slotAt ncx envF Caps)
variable [Nm]
/-- a def that keeps its promise over every base -/
structure CalB (P : Program) (w : World) (K : PySem.W.Frag) (mg : Str → Option Value) (CX : CXT) (k : Nat) (x : Str) (ps : List Str) (sp : Heap → Sp) : Prop where
  ex : ∃ f fd, (∀ base : Heap, K.In base → base.Ns mainGlobals mg → FnOk P w K mg base CX k f fd ps (sp base)) ∧ mg x = some (.ref f) ∧ PySem.W.keepIn K (.ref f) = true ∧ Binds K fd ps []
def tCallLam (LO : Heap → Addr → Addr → List V → Prop) (P : Addr) (js : List Nat) (spg : Heap → Sp) (E : XK) (t1 : TE) : TE := fun σ H Q => t1 σ H fun v1 H1 => ∃ ws : List V, js.map (slotAt σ) = ws.map some ∧ TabS H1 P (Nm.nm P) ∧
  ∀ base f c H2, LamC H1 H2 P c → LO base f c ws → spg base [v1, .ref f] H2 Q E
section
variable {X : Cx} {CX : CXT} {kg kl : Nat} {x p1 p2 : Str} {spg : Heap → Sp} {spl : Sp} {E : XK} {e1 body : Expr} {t1 : TE} {c P : Addr} {params : Arguments} {scope : Scope} {N ps fr : List Str} {js : List Nat} {lpos pos p : Pos}
theorem pe_calLam (G : CalB X.prog X.w X.K X.mg CX kg x [p1, p2] spg) (hr : Room kg X.A) (hx : Passes CX X E) (h1 : PE X e1 t1) (TB : TabB X.base X.mg c P) (hcode : X.env.code = .ref c) (hq : Nm.nm P = X.env.qual ++ "<lambda>")
    (S : NScope N ps fr scope) (hnd : NdefX.ndefB X.env.scope scope fr = true) (hjs : js.map (fun j => X.N[j]?) = fr.map some) (hfn : ∀ x, X.fn x = true)
    (hb : ∀ (q : Str) (cl : List (Str × Addr)) (pm cv ctv : Value) (us : List Value), us.length = ps.length → bindArgs (PySem.W.kla_fn "<lambda>" q params body scope cl pm cv ctv) ⟨us, []⟩ = pure (ps.zip us))
    (hlam : ∀ base : Heap, X.K.In base → base.Ns mainGlobals X.mg → ∀ (f c2 : Addr) (cl : List (Str × Addr)) (A : Around) (outer : List Env) (s : Shared) (H : Hp) (ws vs : List V) (Q : VK), Room kl (A.deeper (envF ⟨"<lambda>", Nm.nm P, params, [], scope, cl, c2⟩ f s.heap.objs.size)) →
      ws.length = fr.length → vs.length = ps.length → spl (ws ++ vs) H Q E0 → ∃ t, PE (ncx CX0 X.prog X.w X.K X.mg base N ⟨"<lambda>", Nm.nm P, params, [], scope, cl, c2⟩ f A outer s H E0) body t ∧ t (startF N vs (ws.map some)) H Q)
    (hdef : defaultsOf params X.env = ([], []) := by rfl) (hg : Gl X x := by rfl) (hdb : (x == ("__debug__" : Str)) = false := by decide)
    (he : starEach [e1, .Lambda params body scope lpos] X.env = (false, eval e1 X.env) :: starEach [.Lambda params body scope lpos] X.env := by rfl) (hpl : (backTo pos (starEach [.Lambda params body scope lpos] X.env)).any (·.1) = false := by rfl) :
    PE X (.Call (.Name x p) [e1, .Lambda params body scope lpos] [] pos) (tCallLam (fun base f c2 ws => LamOk X.prog X.w X.K X.mg base (kl + 1) f c2 (Nm.nm P) ps.length ws spl) P js spg E t1) := by
  refine ⟨fun pins s σ H Q I h => ?_⟩
  obtain ⟨g, fd, F, hm, hk, hbd⟩ := G.ex
  refine wpAny_Call_Name_kw (ld_glob I hg hm ?_ hdb)
  refine PySem.W.callWith_K (h₀ := X.base) I.ok.mod.kin hk ?_ he hpl
  rw [he]
  show wpAny _ _ (spliced ((false, eval e1 X.env) :: (false, eval (.Lambda params body scope lpos) X.env) :: [])) _ _ s
  refine Calls.spliced_cons (thn (h1.run pins s σ H _ I h) fun u1 s1 ⟨v1, H1, I1, r1, ws, hws, hT, q⟩ => ?_)
  have hfree : ∀ y ∈ scope.names, y.2 = .free → ∃ c, X.env.cells.lookup y.1 = some c := fun y hy e => (NdefX.ndef_free hnd y hy e).elim (fun z => I1.ok.has _ (.inl z)) fun z => I1.ok.has _ (.inr z)
  refine Calls.spliced_cons (lam_made I1 TB hcode hq hT hdef hfree fun f c2 pm ctv H2 s2 I2 L hf hfn2 hfr => ?_)
  refine Calls.spliced_nil ⟨I2.kIn, ?_⟩
  have CA := NdefX.cells_of I2 (Caps.made (scope := scope) (fr := fr) (js := js) I2.ok (NdefX.ndef_free hnd) (NdefX.ndef_fr hnd) hjs)
  rw [hws] at CA
  have cin : ∀ y a, (cloFrom X.env.cells scope.names []).lookup y = some a → X.env.cells.lookup y = some a := fun y a e => NdefX.clo_cm hfree e
  have inB : ∀ y a o, (cloFrom X.env.cells scope.names []).lookup y = some a → s2.heap.get? a = some o → (baseOf s2.heap H2 (frs X.stack)).get? a = some o := fun y a o e ho => baseOf_get ho (I2.freeC y a (cin y a e)) fun hm2 => by
    rcases List.mem_cons.mp (I2.stkSub a hm2) with z | z
    · exact I2.cne y a (cin y a e) z
    · obtain ⟨_, o2, ho2, _⟩ := I2.ok.funs.mem z
      exact Nat.lt_irrefl _ (Nat.lt_of_lt_of_le (Heap.lt_size ho2) (I2.ok.cab y a (hfn y) (cin y a e)))
  have CB : CellsB (cloFrom X.env.cells scope.names []) fr ws (baseOf s2.heap H2 (frs X.stack)) := ⟨by rw [← CA.len, List.length_map], fun y a e => by
    obtain ⟨v, o, ho, hd⟩ := (CA.all y a e).2
    exact ⟨v, o, inB y a o e ho, hd⟩, CA.inj, fun i y e => by
    obtain ⟨a, ha, hv⟩ := CA.has i y e
    refine ⟨a, ha, fun v ev => ?_⟩
    obtain ⟨u, ru, o, ho, hd⟩ := hv v (by rw [List.getElem?_map, ev]; rfl)
    exact ⟨u, ru, o, inB y a o ha ho, hd⟩⟩
  have LO : LamOk X.prog X.w X.K X.mg (baseOf s2.heap H2 (frs X.stack)) (kl + 1) f c2 (Nm.nm P) ps.length ws spl := lam_ok S (baseOf_get hf hfn2 hfr) CB (fun us hl => hb _ _ _ _ _ us hl) fun A outer s H vs Q hr2 hl hsp => hlam _ (base_mod I2).kin (base_mod I2).glob f c2 _ A outer s H ws vs Q hr2 CB.len hl hsp
  refine wpAny_call (codeAny_mono ((F _ (base_mod I2).kin (base_mod I2).glob).run X.A X.stack s2 H2 ⟨[u1, .ref f], []⟩ [u1, .ref f] [v1, .ref f] Q E hr (base_env I2) (hbd s2 [u1, .ref f] I2.kIn rfl) (.cons r1 (.cons rfl .nil)) (q _ f c2 H2 L LO)) fun r s3 hq3 => ?_)
  cases r with
  | error e => exact hx pins σ H2 s2 e s3 I2 hq3
  | ok fl =>
    cases fl with
    | ret u => exact I2.after hq3
    | next => exact False.elim hq3
    | brk => exact False.elim hq3
    | cont => exact False.elim hq3
end
/-! ### over data -/
section
variable {K : PySem.W.Frag} {B0 H0 B H : Hp} {Γ : Sls} {M : Mu} {t1 : TE} {tr : TA} {d d1 : Da} {ds cs : List Da} {σ : L2.St}
theorem g_callF {i n : Nat} {f c : Addr} {q : Str} {ws : List V} {fl : List Da → Da → Prop} (hi : Γ[i]? = some (some (.fn f c q cs ws))) (h : EvS K Γ tr ds) (hn : ds.length = n) (hf : fl (cs ++ ds) d) : EvG K Γ (tCallF i f c q n ws (Pu K fl) tr) d := fun σ B H hs e Q k => by
  obtain ⟨v, hv, rfl, hc, hr⟩ := hs.get hi
  exact ⟨hv, h σ B H hs e _ fun vs B1 H1 n1 r => ⟨by rw [r.length]; exact hn, n1.ok _ _ (n1.b _ _ hc), B1, cs ++ ds, d, n1.ok, (RpA.mono n1.b _ _ hr).append r, hf, k.mono n1⟩⟩
theorem caught : ∀ {js : List Nat} {cs : List Da}, js.map (fun j => Γ[j]?) = cs.map (fun c => some (some c)) → Sl K B Γ σ → ∃ ws : List V, js.map (slotAt σ) = ws.map some ∧ RpA K B cs ws
  | [], [], _, _ => ⟨[], rfl, rfl⟩
  | [], _ :: _, h, _ => by cases h
  | _ :: _, [], h, _ => by cases h
  | j :: js, c :: cs, h, hs => by
    rw [List.map_cons, List.map_cons, List.cons.injEq] at h
    obtain ⟨w, hw, rw_⟩ := hs.get h.1
    obtain ⟨ws, h1, h2⟩ := caught h.2 hs
    exact ⟨w :: ws, by rw [List.map_cons, List.map_cons, h1, NdefX.slotAt_of hw], w, ws, rfl, rw_, h2⟩
theorem lamc_nx {P c : Addr} {B1 H1 H2 : Hp} (e : Ex B1 H1) (hP : Nm.nm P ≠ ("" : Str)) (L : LamC H1 H2 P c) : Nx B1 H1 (upd B1 c (CodeO c (Nm.nm P))) H2 ∧ upd B1 c (CodeO c (Nm.nm P)) c = some (CodeO c (Nm.nm P)) := by
  have hB : ∀ o, B1 c = some o → o = CodeO c (Nm.nm P) := fun o ho => by
    cases hn : notT o with
    | true =>
      have := e.g c o ho hn
      rcases L.old with h | h
      · rw [h] at this
        cases this
      · rw [h] at this
        exact (Option.some.inj this).symm
    | false =>
      cases o with
      | tbl ps =>
        obtain ⟨p2, h2⟩ := e.k c ps ho
        rcases L.old with h | h
        · rw [h] at h2
          cases h2
        · rw [h] at h2
          unfold CodeO at h2
          cases h2
      | _ => cases hn
  have nt : ∀ ps, CodeO c (Nm.nm P) ≠ .tbl ps := fun ps z => by
    unfold CodeO at z
    cases z
  refine ⟨⟨⟨fun a o ho hn => ?_, fun a ps ho => ?_, fun P2 t2 => ?_⟩, Ex.of fun a o ho => ?_, L.ex, fun a h1 h2 => ?_⟩, upd_same⟩
  · by_cases ha : a = c
    · subst ha
      rw [upd_same] at ho
      cases ho
      exact L.co
    · rw [upd_ne ha] at ho
      exact L.ex.g a o (e.g a o ho hn) hn
  · by_cases ha : a = c
    · subst ha
      rw [upd_same] at ho
      exact absurd (Option.some.inj ho) (nt ps)
    · rw [upd_ne ha] at ho
      exact (e.trans L.ex).k a ps ho
  · by_cases hp : P2 = P
    · rw [hp]
      exact L.tab
    · refine (e.trans L.ex).t P2 ?_
      obtain ⟨ps, a1, a2, a3⟩ := t2
      have hPc : P2 ≠ c := fun z => by
        rw [z, upd_same] at a1
        exact nt ps (Option.some.inj a1)
      rw [upd_ne hPc] at a1
      refine ⟨ps, a1, a2, fun p2 cv hc => ?_⟩
      obtain ⟨c0, k1, k2⟩ := a3 p2 cv hc
      by_cases h0 : c0 = c
      · subst h0
        rw [upd_same] at k2
        have := L.one _ (Option.some.inj k2)
        exact absurd (Nm.inj P2 P this (by rw [this]; exact hP)) hp
      · rw [upd_ne h0] at k2
        exact ⟨c0, k1, k2⟩
  · by_cases ha : a = c
    · subst ha
      rw [upd_same, hB o ho]
    · rw [upd_ne ha]
      exact ho
  · obtain ⟨o, ho, hc⟩ := h2
    have ha : a ≠ c := fun z => by
      subst z
      rcases L.old with h | h
      · rw [h] at ho
        cases ho
      · rw [h] at ho
        cases ho
        unfold CodeO at hc
        cases hc
    rw [upd_ne ha]
    exact h1
theorem y_lamR {LO : Heap → Addr → Addr → List V → Prop} {P : Addr} {js : List Nat} {CM CR : Addr} {E : XK} {fo : Heap → List Da → Da → Prop} {go : Heap → List Da → Ra → Prop} {Post : Da → Mu → Prop} (hT : TabS H0 P (Nm.nm P)) (hP : Nm.nm P ≠ ("" : Str)) (h1 : EvG K Γ t1 d1)
    (hcs : js.map (fun j => Γ[j]?) = cs.map (fun c => some (some c))) (hf : ∀ base f c ws, LO base f c ws → fo base [d1, .fn f c (Nm.nm P) cs ws] d) (hp : Post d M) : EvY K B0 H0 Γ M (tCallLam LO P js (fun base => PuR K CM CR (fo base) (go base)) E t1) Post := fun σ B H s Q q =>
  h1 σ B H s.s s.ok _ fun v1 B1 H1 n1 r1 => by
    have s1 := s.nx n1
    obtain ⟨ws, h2, h3⟩ := caught hcs s1.s
    refine ⟨ws, h2, s1.n.h.t P hT, fun base f c H2 L hL => ?_⟩
    obtain ⟨n2, hc⟩ := lamc_nx s1.ok hP L
    have s2 := s1.nx n2
    exact ⟨_, [d1, .fn f c (Nm.nm P) cs ws], s2.ok, ⟨v1, _, rfl, Rp.mono n2.b _ _ r1, _, [], rfl, ⟨rfl, hc, RpA.mono n2.b _ _ h3⟩, rfl⟩, .inl ⟨d, hf base f c ws hL, fun v B3 H3 n3 r3 => q d M v B3 H3 hp ((n1.trans n2).trans n3).b (s2.nx n3) r3⟩⟩
theorem y_lamBad {LO : Heap → Addr → Addr → List V → Prop} {P : Addr} {js : List Nat} {CM CR : Addr} {E : XK} {fo : Heap → List Da → Da → Prop} {go : Heap → List Da → Ra → Prop} {b : Ra} {Post : Da → Mu → Prop} (hT : TabS H0 P (Nm.nm P)) (hP : Nm.nm P ≠ ("" : Str)) (h1 : EvG K Γ t1 d1)
    (hcs : js.map (fun j => Γ[j]?) = cs.map (fun c => some (some c))) (hg : ∀ base f c ws, LO base f c ws → go base [d1, .fn f c (Nm.nm P) cs ws] b) (hE : RaE CM CR b H0 E) : EvY K B0 H0 Γ M (tCallLam LO P js (fun base => PuR K CM CR (fo base) (go base)) E t1) Post := fun σ B H s Q q =>
  h1 σ B H s.s s.ok _ fun v1 B1 H1 n1 r1 => by
    have s1 := s.nx n1
    obtain ⟨ws, h2, h3⟩ := caught hcs s1.s
    refine ⟨ws, h2, s1.n.h.t P hT, fun base f c H2 L hL => ?_⟩
    obtain ⟨n2, hc⟩ := lamc_nx s1.ok hP L
    have s2 := s1.nx n2
    exact ⟨_, [d1, .fn f c (Nm.nm P) cs ws], s2.ok, ⟨v1, _, rfl, Rp.mono n2.b _ _ r1, _, [], rfl, ⟨rfl, hc, RpA.mono n2.b _ _ h3⟩, rfl⟩, .inr ⟨b, hg base f c ws hL, hE.mono s2.n.h⟩⟩
end
end Fo

set_option maxHeartbeats 2000000
/-! Fo23: defs whose code object is told; the end of a law whose defs make lambdas -/
namespace Fo
open PySem PySem.Spec PyProof.Rows L2
open LamX (TabS CodeO TabB)
open PySem.Calls
/-- a def with its code object -/
structure FunL (K : PySem.W.Frag) (x qual : Str) (st : Stmt) (f : Addr) (fd : FuncData) (c : Addr) : Prop where
  ex : ∃ (oc : Value) (od : Option Addr) (kV doc pm : Value) (an : Option Addr) (ct : Value) (osl : Array (Option Value)),
    fd = PySem.W.fnOf x qual (defArgs st) (defBody st) (defScope st) .none kV doc pm an (.ref c) ct ∧ K.lookup f = some ⟨oc, od, .func fd, osl⟩ ∧ PySem.W.codeIn K (.ref c) qual = true
  kp : PySem.W.keepIn K (.ref f) = true
section
variable {P : Program} {w : World} {K : PySem.W.Frag} {mg : Str → Option Value} {base : Heap}
theorem funl_mk {x qual : Str} {st : Stmt} {f c : Addr} {oc : Value} {od an : Option Addr} {osl : Array (Option Value)} {kV doc pm ct : Value} (l : K.lookup f = some ⟨oc, od, .func (PySem.W.fnOf x qual (defArgs st) (defBody st) (defScope st) .none kV doc pm an (.ref c) ct), osl⟩)
    (hc : PySem.W.codeIn K (.ref c) qual = true) (k : PySem.W.keepIn K (.ref f) = true) : FunL K x qual st f (PySem.W.fnOf x qual (defArgs st) (defBody st) (defScope st) .none kV doc pm an (.ref c) ct) c := ⟨⟨oc, od, kV, doc, pm, an, ct, osl, rfl, l, hc⟩, k⟩
theorem FunL.fun {x qual : Str} {st : Stmt} {f c : Addr} {fd : FuncData} (F : FunL K x qual st f fd c) : Fun K x qual st f fd := by
  obtain ⟨oc, od, kV, doc, pm, an, ct, osl, h1, h2, h3⟩ := F.ex
  exact ⟨⟨oc, od, kV, doc, pm, an, _, ct, osl, h1, h2, h3⟩, F.kp⟩
theorem okXL {x qual : Str} {st : Stmt} {f c : Addr} {fd : FuncData} {N ps : List Str} {k : Nat} {sp : Sp} (F : FunL K x qual st f fd c) (S : FnScope N ps (defScope st)) (len : ∀ vs H Q E, sp vs H Q E → vs.length = ps.length)
    (hbody : ∀ (A : Around) (outer : List Env) (s : Shared) (H : Hp) (vs : List V) (Q : VK) (E : XK), Room k (A.deeper (envOfC qual (defScope st) s.heap.objs.size f (.ref c))) → sp vs H Q E →
      ∃ t, PSs (cxOf (L2.CX P w) P w K mg base N qual (defScope st) f (.ref c) A outer s H E) (defBody st) t ∧ t { nx := fun _ H' => Q .non H', rt := Q } (start N vs) H) : FnOk P w K mg base (L2.CX P w) (k + 1) f fd ps sp := by
  obtain ⟨oc, od, kV, doc, pm, an, ct, osl, rfl, lk, hcd⟩ := F.ex
  exact fn_of lk hcd S len fun A outer s H vs Q E hr hsp => hbody A outer s H vs Q E hr hsp
end
/-! ### names of tables -/
abbrev nm1 (P : Addr) (q : Str) : Nm where
  nm := fun a => if a = P then q else ""
  inj := fun a b h n => by

    by_cases ha : a = P
    · by_cases hb : b = P
      · rw [ha, hb]
      · rw [if_pos ha, if_neg hb] at h
        rw [if_pos ha] at n
        exact absurd h n
    · rw [if_neg ha] at n
      exact absurd rfl n
theorem nm1_at {P : Addr} {q : Str} : (nm1 P q).nm P = q := if_pos rfl
abbrev nm2 (P1 : Addr) (q1 : Str) (P2 : Addr) (q2 : Str) (hq : q1 ≠ q2) : Nm where
  nm := fun a => if a = P1 then q1 else if a = P2 then q2 else ""
  inj := fun a b h n => by

    by_cases ha : a = P1
    · by_cases hb : b = P1
      · rw [ha, hb]
      · by_cases hb2 : b = P2
        · rw [if_pos ha, if_neg hb, if_pos hb2] at h
          exact absurd h hq
        · rw [if_pos ha, if_neg hb, if_neg hb2] at h
          rw [if_pos ha] at n
          exact absurd h n
    · by_cases ha2 : a = P2
      · by_cases hb : b = P1
        · rw [if_neg ha, if_pos ha2, if_pos hb] at h
          exact absurd h.symm hq
        · by_cases hb2 : b = P2
          · rw [ha2, hb2]
          · rw [if_neg ha, if_pos ha2, if_neg hb, if_neg hb2] at h
            rw [if_neg ha, if_pos ha2] at n
            exact absurd h n
      · rw [if_neg ha, if_neg ha2] at n
        exact absurd rfl n
theorem nm2_a {P1 P2 : Addr} {q1 q2 : Str} {hq : q1 ≠ q2} : (nm2 P1 q1 P2 q2 hq).nm P1 = q1 := if_pos rfl
theorem nm2_b {P1 P2 : Addr} {q1 q2 : Str} {hq : q1 ≠ q2} (h : P1 ≠ P2) : (nm2 P1 q1 P2 q2 hq).nm P2 = q2 := by
  show (if P2 = P1 then q1 else if P2 = P2 then q2 else "") = q2
  rw [if_neg (Ne.symm h), if_pos rfl]
/-- a law's promise where tables stand -/
def spLawT (K : PySem.W.Frag) (cs : List (Addr × Addr)) : Sp := fun vs H Q _ => ∃ (a : Addr) (ns : List Int), vs = [.ref a] ∧ SqL K H a (ns.map V.int) ∧ (∀ p ∈ cs, H p.2 = some (.tbl #[])) ∧ ∀ H2, Q (.bl true) H2
theorem tab_start [Nm] {H : Hp} {P : Addr} (h : H P = some (.tbl #[])) : TabS H P (Nm.nm P) := LamX.TabS.nil h
/-- the end: xs the names of the defs that make lambdas -/
theorem walk_lam {l : PySem.W.OpenLaw} {n k : Nat} {q : Program} {loose : List Str} {XP : (Str → Option Value) → Heap → Prop} {YP : World → Heap → Prop} {d : DefRec} {K : Params → PySem.W.Frag} {CX : World → CXT} {x : Str}
    (hn : l.most = some n) (hn2 : n ≤ sizeLine) (hdf : d.params.defaults = []) (hr : Room k callerA) (hY : ∀ (w : World) (h : Heap), YP w h → (K w.params).In h)
    (F : ∀ (w : World) (mg : Str → Option Value) (fa : Addr) (h : Heap), YP w h → (K w.params).In h → h.Ns mainGlobals mg → mg d.name = some (.ref fa) → ∃ (fd : FuncData) (cs : List (Addr × Addr)), (∀ p ∈ cs, ∃ (y : Str) (dy : DefRec), (recsOf q).find? (fun e => e.name == y) = some dy ∧ PySem.W.tabIn (K w.params) y = some p) ∧ (∀ p ∈ cs, (K w.params).lookup p.2 = none) ∧
      (∀ (s : Shared) (u : Value), BindsTo s fd ⟨[u], []⟩ [(x, u)]) ∧ ∀ base : Heap, (K w.params).In base → base.Ns mainGlobals mg → (∀ p ∈ cs, TabB base mg p.1 p.2) → FnOk l.prog w (K w.params) mg base (CX w) k fa fd [x] (spLawT (K w.params) cs))
    (hCX : ∀ (w : World) (H : Hp) (s : Shared) (e : Value) (s' : Shared), CX w [] H s (fun _ _ _ => False) e s' → False) :
    PySem.W.WalkO q loose XP YP l.row.toRowW d [] (fun f vs => PySem.call f vs) := by
  refine Att.attach_callB hn hdf fun w s₀ s₁ mg mb fa o pm cd doc a vs ns G Y ho hd hcd hmg hobj hints hlen _ hg => ?_
  have KX := hY w _ Y
  obtain ⟨fd, cs, hc, nT, hb, hF⟩ := F w mg fa _ Y KX G.T.g hmg
  have tb : ∀ p ∈ cs, PySem.W.CodeHd s₁.heap p.1 p.2 ∧ s₁.heap.get? p.2 = some (PySem.W.tabObj #[]) := fun p hp => by
    obtain ⟨y, dy, h1, h2⟩ := hc p hp
    exact PySem.W.tab_of (c := p.1) (P := p.2) G.T KX h1 h2
  exact LamX.law_callTs KX G.T.g G.T.b G.T.builtins G.T.nolimit hg (fun p hp => (tb p hp).2) nT (fun p hp => (tb p hp).1) G.T.bmain hobj hints (Nat.le_trans hlen hn2) hr hF hb (fun H hH hS => ⟨a, ns, rfl, hS, hH, fun _ => rfl⟩) fun H e s' => hCX w H s₁ e s'
end Fo

set_option maxHeartbeats 2000000
/-! Fo24: tables of one's own in a body told by EvP: a row of rows that are written cell by cell -/
namespace Fo
open PySem PySem.Spec PyProof.Rows L2
open Evl (ixN_nat)
variable [Nm]
/-- the rows from row i on, as lists of one's own -/
def rowsM (n : Nat) (R : Rel) : Nat → List Addr → Mu
  | _, [] => []
  | i, r :: rs => (none, r, (List.range n).map fun z => Da.bl (R i z)) :: rowsM n R (i + 1) rs
def tabM (o : Nat) (t : Addr) (rs : List Addr) (n : Nat) (R : Rel) : Mu := (some o, t, rs.map fun r => Da.raw (.ref r)) :: rowsM n R 0 rs
section
variable {K : PySem.W.Frag} {B0 H0 B H B2 H2 : Hp} {Γ : Sls} {M M2 : Mu} {te : TE} {t1 : TS} {ta tb : TA} {σ : L2.St} {n o : Nat} {t : Addr} {R R2 : Rel} {rs : List Addr} {post : Ou → Prop} {P : Da → Mu → Prop}
theorem rpa_bls {f : Nat → Bool} : ∀ {l : List Nat} {xs : List V}, RpA K B (l.map fun z => Da.bl (f z)) xs ↔ xs = l.map fun z => V.bl (f z)
  | [], xs => Iff.rfl
  | a :: l, xs => by
    constructor
    · rintro ⟨x, r, rfl, h1, h2⟩
      obtain rfl : x = .bl (f a) := h1
      rw [rpa_bls.mp h2]
      rfl
    · rintro rfl
      exact ⟨_, _, rfl, rfl, rpa_bls.mpr rfl⟩
theorem rpa_raws : ∀ {rs : List Addr} {xs : List V}, RpA K B (rs.map fun r => Da.raw (.ref r)) xs ↔ xs = rs.map V.ref
  | [], xs => Iff.rfl
  | a :: l, xs => by
    constructor
    · rintro ⟨x, r, rfl, h1, h2⟩
      obtain rfl : x = .ref a := h1
      rw [rpa_raws.mp h2]
      rfl
    · rintro rfl
      exact ⟨_, _, rfl, rfl, rpa_raws.mpr rfl⟩
theorem rowsM_none {q : Option Nat × Addr × List Da} : ∀ {rs : List Addr} {i : Nat}, q ∈ rowsM n R i rs → q.1 = none ∧ q.2.1 ∈ rs
  | [], _, h => nomatch h
  | r :: rs, i, h => by
    rcases List.mem_cons.mp h with e | h
    · subst e
      exact ⟨rfl, List.mem_cons_self⟩
    · have := rowsM_none h
      exact ⟨this.1, List.mem_cons_of_mem _ this.2⟩
theorem rowsM_has {r : Addr} : ∀ {rs : List Addr} {i : Nat}, r ∈ rs → ∃ q ∈ rowsM n R i rs, q.2.1 = r
  | [], _, h => nomatch h
  | a :: rs, i, h => by
    rcases List.mem_cons.mp h with e | h
    · exact ⟨_, List.mem_cons_self, e.symm⟩
    · obtain ⟨q, h1, h2⟩ := rowsM_has h
      exact ⟨q, List.mem_cons_of_mem _ h1, h2⟩
theorem rows_of : ∀ {rs : List Addr} {i : Nat}, MuH K H0 B H (rowsM n R i rs ++ M) → (∀ x r, rs[x]? = some r → H0 r = none ∧ B r = none ∧ H r = some (.lst ((List.range n).map fun z => V.bl (R (i + x) z)))) ∧ rs.Nodup ∧ (∀ q ∈ M, q.2.1 ∉ rs) ∧ MuH K H0 B H M
  | [], i, h => ⟨fun x r e => by simp at e, List.nodup_nil, fun q _ => List.not_mem_nil, h⟩
  | a :: rs, i, ⟨⟨h1, h2, ⟨xs, h3, h4⟩, h5⟩, hr⟩ => by
    obtain ⟨q1, q2, q3, q4⟩ := rows_of hr
    refine ⟨fun x r e => ?_, List.nodup_cons.mpr ⟨fun hm => ?_, q2⟩, fun q hq hm => ?_, q4⟩
    · cases x with
      | zero =>
        cases (Option.some.inj e : a = r)
        exact ⟨h1, h2, by rw [h3, rpa_bls.mp h4]; rfl⟩
      | succ x =>
        obtain ⟨k1, k2, k3⟩ := q1 x r e
        exact ⟨k1, k2, by rw [k3, show i + 1 + x = i + (x + 1) by omega]⟩
    · obtain ⟨q, hq, e⟩ := rowsM_has (n := n) (R := R) (i := i + 1) hm
      exact h5 q (List.mem_append_left _ hq) e
    · rcases List.mem_cons.mp hm with e | hm
      · exact h5 q (List.mem_append_right _ hq) e
      · exact q3 q hq hm
theorem rows_mk : ∀ {rs : List Addr} {i : Nat}, (∀ x r, rs[x]? = some r → H0 r = none ∧ B r = none ∧ H r = some (.lst ((List.range n).map fun z => V.bl (R (i + x) z)))) → rs.Nodup → (∀ q ∈ M, q.2.1 ∉ rs) → MuH K H0 B H M → MuH K H0 B H (rowsM n R i rs ++ M)
  | [], i, _, _, _, h => h
  | a :: rs, i, h1, h2, h3, h4 => by
    obtain ⟨k1, k2, k3⟩ := h1 0 a rfl
    have nd := List.nodup_cons.mp h2
    refine ⟨⟨k1, k2, ⟨_, k3, rpa_bls.mpr rfl⟩, fun q hq e => ?_⟩, rows_mk (i := i + 1) (fun x r e => ?_) nd.2 (fun q hq hm => h3 q hq (List.mem_cons_of_mem _ hm)) h4⟩
    · rcases List.mem_append.mp hq with hq | hq
      · have e1 : q.2.1 = a := e
        exact nd.1 (by rw [← e1]; exact (rowsM_none hq).2)
      · have e1 : q.2.1 = a := e
        exact h3 q hq (by rw [e1]; exact List.mem_cons_self)
    · obtain ⟨m1, m2, m3⟩ := h1 (x + 1) r e
      exact ⟨m1, m2, by rw [m3, show i + 1 + x = i + (x + 1) by omega]⟩
theorem MuH.tab (h : MuH K H0 B H (tabM o t rs n R ++ M)) (hl : rs.length = n) : TabAt H t rs n R ∧ (∀ a, a = t ∨ a ∈ rs → H0 a = none ∧ B a = none) ∧ (∀ q ∈ M, q.2.1 ≠ t ∧ q.2.1 ∉ rs) ∧ MuH K H0 B H M := by
  obtain ⟨⟨h1, h2, ⟨xs, h3, h4⟩, h5⟩, hr⟩ := h
  obtain ⟨q1, q2, q3, q4⟩ := rows_of hr
  rw [rpa_raws.mp h4] at h3
  refine ⟨⟨h3, hl, q2, fun hm => ?_, fun x r e => by rw [(q1 x r e).2.2, Nat.zero_add]⟩, fun a ha => ?_, fun q hq => ⟨h5 q (List.mem_append_right _ hq), q3 q hq⟩, q4⟩
  · obtain ⟨q, hq, e⟩ := rowsM_has (n := n) (R := R) (i := 0) hm
    exact h5 q (List.mem_append_left _ hq) e
  · rcases ha with rfl | ha
    · exact ⟨h1, h2⟩
    · obtain ⟨x, hx⟩ := List.mem_iff_getElem?.mp ha
      exact ⟨(q1 x a hx).1, (q1 x a hx).2.1⟩
theorem MuH.mkTab (T : TabAt H t rs n R) (h0 : ∀ a, a = t ∨ a ∈ rs → H0 a = none ∧ B a = none) (hm : ∀ q ∈ M, q.2.1 ≠ t ∧ q.2.1 ∉ rs) (h : MuH K H0 B H M) : MuH K H0 B H (tabM o t rs n R ++ M) := by
  refine ⟨⟨(h0 t (.inl rfl)).1, (h0 t (.inl rfl)).2, ⟨_, T.tab, rpa_raws.mpr rfl⟩, fun q hq e => ?_⟩, rows_mk (fun x r hx => ⟨(h0 r (.inr (List.mem_of_getElem? hx))).1, (h0 r (.inr (List.mem_of_getElem? hx))).2, by rw [T.row x r hx, Nat.zero_add]⟩) T.nd (fun q hq => (hm q hq).2) h⟩
  rcases List.mem_append.mp hq with hq | hq
  · have e : q.2.1 = t := e
    exact T.nt (by rw [← e]; exact (rowsM_none hq).2)
  · exact (hm q hq).1 e
theorem tabM_l {q : Option Nat × Addr × List Da} (h : q ∈ tabM o t rs n R) : q.1 = none ∨ q = (some o, t, rs.map fun r => Da.raw (.ref r)) := by
  rcases List.mem_cons.mp h with e | h
  · exact .inr e
  · exact .inl (rowsM_none h).1
/-- their order is none of the program's -/
theorem MuH.perm (h : M.Perm M2) : MuH K H0 B H M → MuH K H0 B H M2 := by
  induction h with
  | nil => exact id
  | cons a h ih => exact fun ⟨⟨h1, h2, h3, h5⟩, hr⟩ => ⟨⟨h1, h2, h3, fun q hq => h5 q (h.mem_iff.mpr hq)⟩, ih hr⟩
  | swap a b l => exact fun ⟨⟨h1, h2, h3, h5⟩, ⟨⟨k1, k2, k3, k5⟩, hr⟩⟩ => ⟨⟨k1, k2, k3, fun q hq => by
      rcases List.mem_cons.mp hq with e | hq
      · subst e
        exact fun z => h5 _ List.mem_cons_self z.symm
      · exact k5 q hq⟩, ⟨h1, h2, h3, fun q hq => h5 q (List.mem_cons_of_mem _ hq)⟩, hr⟩
  | trans _ _ ih1 ih2 => exact fun h => ih2 (ih1 h)
theorem Stt.perm (h : M.Perm M2) (s : Stt K B0 H0 Γ M σ B H) : Stt K B0 H0 Γ M2 σ B H := ⟨s.s, s.h.perm h, fun m hm => s.l m (h.mem_iff.mpr hm), s.n⟩
theorem p_perm (h : M.Perm M2) (hp : EvP K B0 H0 Γ M2 t1 post) : EvP K B0 H0 Γ M t1 post := fun σ B H D s f => hp σ B H D (s.perm h) f
theorem y_perm (h : M.Perm M2) (hp : EvY K B0 H0 Γ M2 te P) : EvY K B0 H0 Γ M te P := fun σ B H s Q q => hp σ B H (s.perm h) Q q
/-- [[False for y in range(n)] for x in range(n)] that is written -/
theorem p_table {j j1 : Nat} {vs vs1 : List Nat} (ha : EvS K Γ ta [.int (n : Int)]) (hb : ∀ i : Nat, EvS K ((wipeG Γ vs).set j (some (.int (i : Int)))) tb [.int (n : Int)]) (hn : n ≤ 1000) (hw : j ∈ vs) (hw1 : j1 ∈ vs1) (ho : (Γ[o]?).isSome = true) (hm : ∀ m ∈ M, m.1 ≠ some o)
    (hp : ∀ t rs, rs.length = n → post (.nx (Γ.set o none) (tabM o t rs n (fun _ _ => false) ++ M))) : EvP K B0 H0 Γ M (tAsg (tLc (iRng1 ta) (gName j) tYes (tLc (iRng1 tb) (gName j1) tYes (tC (.bl false)) vs1) vs) (gName o)) post := fun σ B H D s f =>
  z_table (Q := fun v H1 => gName o v σ H1 D.nx) ha hb s.s s.ok hn hw hw1 fun t rs B2 H2 n2 T hH hB => by
    have s2 := s.nx n2
    have nm : ∀ q ∈ M, q.2.1 ≠ t ∧ q.2.1 ∉ rs := fun q hq => ⟨s.h.fresh (hH t (.inl rfl)) q hq, fun hr => s.h.fresh (hH _ (.inr hr)) q hq rfl⟩
    refine f _ (hp t rs T.len) _ B2 H2 n2.b ⟨s2.s.set0 o, MuH.mkTab T (fun a ha => ⟨h0_none s.n (hH a ha), hB a ha⟩) nm s2.h, fun m hm2 k hk => ?_, s2.n⟩
    rcases List.mem_append.mp hm2 with h | h
    · rcases tabM_l h with e | e
      · rw [e] at hk
        cases hk
      · subst e
        cases (Option.some.inj hk : o = k)
        have : o < σ.length := by
          rw [s.s.len]
          cases e : Γ[o]? with
          | none => rw [e] at ho; cases ho
          | some x => exact (List.getElem?_eq_some_iff.mp e).1
        simp [this]
    · rw [List.getElem?_set_ne (fun e => hm m h (by rw [hk, e]))]
      exact s.l m h k hk
theorem set_id {l : Addr} (hσ : σ[o]? = some (some (.ref l))) : σ.set o (some (.ref l)) = σ := by
  apply List.ext_getElem?
  intro m
  by_cases hm : m = o
  · subst hm
    obtain ⟨hk, e⟩ := List.getElem?_eq_some_iff.mp hσ
    rw [List.getElem?_set_self hk, hσ]
  · rw [List.getElem?_set_ne (Ne.symm hm)]
/-- its cells are read -/
theorem y_tabB {b : Bool} (hl : rs.length = n) (h : EvG K (Γ.set o (some (dTab n R))) te (.bl b)) (p : P (.bl b) (tabM o t rs n R ++ M)) : EvY K B0 H0 Γ (tabM o t rs n R ++ M) te P := fun σ B H s Q q => by
  obtain ⟨T, h0, hm, hM⟩ := s.h.tab hl
  have hσ := s.l _ (List.mem_append_left _ List.mem_cons_self) o rfl
  have hs2 := (s.s.mono (frz_sub fun a ha => (h0 a ha).2)).set (d := dTab n R) (v := .ref t) o T.rp
  rw [set_id hσ] at hs2
  exact h.sc (x := .bl b) rfl hs2 (frz_ex T s.ok) fun H2 e2 => q _ _ (.bl b) B H2 p (.refl _) (s.nx (.grow s.ok e2)) rfl
/-- a cell is written -/
theorem p_tabSet {jx jz x z : Nat} {b : Bool} (hl : rs.length = n) (h : EvY K B0 H0 Γ (tabM o t rs n R ++ M) te fun d M' => d = .bl b ∧ M' = tabM o t rs n R ++ M) (hx : Γ[jx]? = some (some (.int (x : Int)))) (hz : Γ[jz]? = some (some (.int (z : Int)))) (hxn : x < n) (hzn : z < n)
    (hp : post (.nx Γ (tabM o t rs n (updR R x z b) ++ M))) : EvP K B0 H0 Γ (tabM o t rs n R ++ M) (tAsg te (gSub (tOp (rIxL K) (tVar o) (tVar jx)) (tVar jz) rSetL)) post := fun σ B H D s f =>
  h σ B H s _ fun d M1 v B1 H1 ⟨e1, e2⟩ eb s1 r1 => by
    subst e1
    subst e2
    obtain rfl : v = .bl b := r1
    obtain ⟨T, h0, hm, hM⟩ := s1.h.tab hl
    have hσ := s1.l _ (List.mem_append_left _ List.mem_cons_self) o rfl
    obtain ⟨vx, g1, gx⟩ := s1.s.get hx
    obtain rfl : vx = .int (x : Int) := gx
    obtain ⟨vz, g2, gz⟩ := s1.s.get hz
    obtain rfl : vz = .int (z : Int) := gz
    have hxr : x < rs.length := by rw [hl]; exact hxn
    have hr : rs[x]? = some rs[x] := by simp [hxr]
    have hrm : rs[x] ∈ rs := List.getElem_mem _
    have T2 := T.set (b := b) hr hzn
    refine ⟨.ref t, hσ, .int (x : Int), g1, t, _, _, .ref rs[x], rfl, rfl, .inl (.inl T.tab), atI_nat (by rw [List.getElem?_map, hr]; rfl), .int (z : Int), g2, rs[x], _, (z : Int), z, rfl, rfl, T.row _ _ hr, ixN_nat (by rw [List.length_map, List.length_range]; exact hzn), ?_⟩
    refine f _ hp σ B1 _ eb ⟨s1.s, MuH.mkTab T2 h0 hm (hM.updH fun q hq => ?_), fun m hm2 k hk => ?_, s1.n.mut (h0 _ (.inr hrm)).1 (h0 _ (.inr hrm)).2 (T.ml (.inr hrm))⟩
    · exact fun e => (hm q hq).2 (by rw [e]; exact hrm)
    · rcases List.mem_append.mp hm2 with h | h
      · rcases tabM_l h with e | e
        · rw [e] at hk
          cases hk
        · subst e
          cases (Option.some.inj hk : o = k)
          exact hσ
      · exact s1.l m (List.mem_append_right _ h) k hk
theorem MuH.frzT (hB : ∀ a, a ≠ t → a ∉ rs → B2 a = B a) (e : Ex B B2) : ∀ {M : Mu}, MuH K H0 B H M → (∀ q ∈ M, q.2.1 ≠ t ∧ q.2.1 ∉ rs) → MuH K H0 B2 H M
  | [], _, _ => trivial
  | m :: r, ⟨⟨h1, h2, ⟨xs, h3, h4⟩, h5⟩, hr⟩, hm => ⟨⟨h1, by rw [hB _ (hm m List.mem_cons_self).1 (hm m List.mem_cons_self).2]; exact h2, ⟨xs, h3, RpA.mono e _ _ h4⟩, h5⟩, hr.frzT hB e fun q hq => hm q (List.mem_cons_of_mem _ hq)⟩
/-- it changes no more -/
theorem p_tabFrz (hl : rs.length = n) (h : EvP K B0 H0 (Γ.set o (some (dTab n R))) M t1 post) : EvP K B0 H0 Γ (tabM o t rs n R ++ M) t1 post := fun σ B H D s f => by
  obtain ⟨T, h0, hm, hM⟩ := s.h.tab hl
  have hσ := s.l _ (List.mem_append_left _ List.mem_cons_self) o rfl
  have sub : Ex B (Fo.frzT B H t rs) := frz_sub fun a ha => (h0 a ha).2
  have hs2 := (s.s.mono sub).set (d := dTab n R) (v := .ref t) o T.rp
  rw [set_id hσ] at hs2
  refine h σ (Fo.frzT B H t rs) H D ⟨hs2, hM.frzT (fun a h1 h2 => ?_) sub hm, fun m hm2 => s.l m (List.mem_append_right _ hm2), s.n.frzT T (fun a ha => (h0 a ha).1) fun a ha => (h0 a ha).2⟩ fun o po => (f o po).mono sub
  unfold Fo.frzT
  rw [if_neg fun z => z.elim h1 h2]
theorem tabM_congr (h : ∀ x z, z < n → R x z = R2 x z) : tabM o t rs n R = tabM o t rs n R2 := by
  have key : ∀ (rs : List Addr) (i : Nat), rowsM n R i rs = rowsM n R2 i rs := by
    intro rs
    induction rs with
    | nil => exact fun _ => rfl
    | cons a rs ih =>
      intro i
      unfold rowsM
      rw [ih]
      congr 3
      apply List.map_congr_left
      intro z hz
      rw [h i z (List.mem_range.mp hz)]
  unfold tabM
  rw [key]
/-- (a, b), (c, d) = e -/
theorem p_asgYY {i1 i2 i3 i4 : Nat} (h : EvY K B0 H0 Γ M te P) (hk : ∀ d M1, P d M1 → ∃ a b c e, d = .tup [.tup [a, b], .tup [c, e]] ∧ (∀ m ∈ M1, m.1 ≠ some i1 ∧ m.1 ≠ some i2 ∧ m.1 ≠ some i3 ∧ m.1 ≠ some i4) ∧ post (.nx ((((Γ.set i1 (some a)).set i2 (some b)).set i3 (some c)).set i4 (some e)) M1)) :
    EvP K B0 H0 Γ M (tAsg te (gTup K 2 (gCons (gTup K 2 (gCons (gName i1) (gCons (gName i2) gNil))) (gCons (gTup K 2 (gCons (gName i3) (gCons (gName i4) gNil))) gNil)))) post := fun σ B H D s f =>
  h σ B H s _ fun d M1 v B2 H2 p e2 s2 r => by
    obtain ⟨a, b, c, e, rfl, hi, hp⟩ := hk d M1 p
    obtain ⟨q, xs, rfl, h3, h4⟩ := r
    obtain ⟨x1, x2, rfl, r1, r2⟩ := rpa2 h4
    obtain ⟨q1, xs1, rfl, h31, h41⟩ := r1
    obtain ⟨y1, y2, rfl, ra, rb⟩ := rpa2 h41
    obtain ⟨q2, xs2, rfl, h32, h42⟩ := r2
    obtain ⟨z1, z2, rfl, rc, re⟩ := rpa2 h42
    exact ⟨q, _, rfl, ex_t s2.ok h3, rfl, _, [.ref q2], rfl, q1, _, rfl, ex_t s2.ok h31, rfl, _, [y2], rfl, _, [], rfl, rfl, _, [], rfl, q2, _, rfl, ex_t s2.ok h32, rfl, _, [z2], rfl, _, [], rfl, rfl, rfl,
      f _ hp _ B2 H2 e2 ((((s2.set ra fun m hm => (hi m hm).1).set rb fun m hm => (hi m hm).2.1).set rc fun m hm => (hi m hm).2.2.1).set re fun m hm => (hi m hm).2.2.2)⟩
end
end Fo

namespace OF
open PySem PySem.Spec PyProof.Rows L2 Fo
open Evl (ixN_nat)
variable [Nm]
def topS (i : Nat) : Stmt := PySem.Challenge.pw_orderforms_k14_partings_recognised.main.body.getD i (.Pass ⟨0, 0, 0, 0⟩)
abbrev s_Refused___init__ : Stmt := inClass (topS 4) 0
abbrev N_Refused___init__ : List Str := ["self", "reason"]
theorem sc_Refused___init__ : FnScope N_Refused___init__ ["self", "reason"] (defScope s_Refused___init__) := ⟨rfl, rfl, rfl, by decide +kernel, rfl, by decide +kernel, by decide +kernel⟩
abbrev s_is_integer : Stmt := topS 6
abbrev N_is_integer : List Str := ["value"]
theorem sc_is_integer : FnScope N_is_integer ["value"] (defScope s_is_integer) := ⟨rfl, rfl, rfl, by decide +kernel, rfl, by decide +kernel, by decide +kernel⟩
abbrev s_is_point : Stmt := topS 7
abbrev N_is_point : List Str := ["value", "n"]
theorem sc_is_point : FnScope N_is_point ["value", "n"] (defScope s_is_point) := ⟨rfl, rfl, rfl, by decide +kernel, rfl, by decide +kernel, by decide +kernel⟩
abbrev s_is_set : Stmt := topS 8
abbrev N_is_set : List Str := ["value", "n"]
theorem sc_is_set : FnScope N_is_set ["value", "n"] (defScope s_is_set) := ⟨rfl, rfl, rfl, by decide +kernel, rfl, by decide +kernel, by decide +kernel⟩
abbrev s_is_ascending : Stmt := topS 9
abbrev N_is_ascending : List Str := ["value", "n", "x"]
theorem sc_is_ascending : FnScope N_is_ascending ["value", "n"] (defScope s_is_ascending) := ⟨rfl, rfl, rfl, by decide +kernel, rfl, by decide +kernel, by decide +kernel⟩
abbrev s_has_each_once : Stmt := topS 10
abbrev N_has_each_once : List Str := ["parting", "n", "points", "item", "x"]
theorem sc_has_each_once : FnScope N_has_each_once ["parting", "n"] (defScope s_has_each_once) := ⟨rfl, rfl, rfl, by decide +kernel, rfl, by decide +kernel, by decide +kernel⟩
abbrev s_members : Stmt := topS 11
abbrev N_members : List Str := ["bits", "points"]
theorem sc_members : FnScope N_members ["bits"] (defScope s_members) := ⟨rfl, rfl, rfl, by decide +kernel, rfl, by decide +kernel, by decide +kernel⟩
abbrev s_set_of : Stmt := topS 12
abbrev N_set_of : List Str := ["points", "bits", "x"]
theorem sc_set_of : FnScope N_set_of ["points"] (defScope s_set_of) := ⟨rfl, rfl, rfl, by decide +kernel, rfl, by decide +kernel, by decide +kernel⟩
abbrev s_lowest : Stmt := topS 13
abbrev N_lowest : List Str := ["bits"]
theorem sc_lowest : FnScope N_lowest ["bits"] (defScope s_lowest) := ⟨rfl, rfl, rfl, by decide +kernel, rfl, by decide +kernel, by decide +kernel⟩
abbrev s_has : Stmt := topS 14
abbrev N_has : List Str := ["bits", "x"]
theorem sc_has : FnScope N_has ["bits", "x"] (defScope s_has) := ⟨rfl, rfl, rfl, by decide +kernel, rfl, by decide +kernel, by decide +kernel⟩
abbrev s_is_chain : Stmt := topS 16
abbrev N_is_chain : List Str := ["order", "points"]
theorem sc_is_chain : FnScope N_is_chain ["order", "points"] (defScope s_is_chain) := ⟨rfl, rfl, rfl, by decide +kernel, rfl, by decide +kernel, by decide +kernel⟩
abbrev s_is_antichain : Stmt := topS 17
abbrev N_is_antichain : List Str := ["order", "points"]
theorem sc_is_antichain : FnScope N_is_antichain ["order", "points"] (defScope s_is_antichain) := ⟨rfl, rfl, rfl, by decide +kernel, rfl, by decide +kernel, by decide +kernel⟩
abbrev s_is_chain_parting : Stmt := topS 18
abbrev N_is_chain_parting : List Str := ["order", "parting", "item"]
theorem sc_is_chain_parting : FnScope N_is_chain_parting ["order", "parting"] (defScope s_is_chain_parting) := ⟨rfl, rfl, rfl, by decide +kernel, rfl, by decide +kernel, by decide +kernel⟩
abbrev s_is_antichain_parting : Stmt := topS 19
abbrev N_is_antichain_parting : List Str := ["order", "parting", "item"]
theorem sc_is_antichain_parting : FnScope N_is_antichain_parting ["order", "parting"] (defScope s_is_antichain_parting) := ⟨rfl, rfl, rfl, by decide +kernel, rfl, by decide +kernel, by decide +kernel⟩
abbrev s_Order___init__ : Stmt := inClass (topS 22) 0
abbrev N_Order___init__ : List Str := ["self", "n", "pairs", "above", "x"]
theorem sc_Order___init__ : FnScope N_Order___init__ ["self", "n", "pairs"] (defScope s_Order___init__) := ⟨rfl, rfl, rfl, by decide +kernel, rfl, by decide +kernel, by decide +kernel⟩
abbrev s_Order___len__ : Stmt := inClass (topS 22) 1
abbrev N_Order___len__ : List Str := ["self"]
theorem sc_Order___len__ : FnScope N_Order___len__ ["self"] (defScope s_Order___len__) := ⟨rfl, rfl, rfl, by decide +kernel, rfl, by decide +kernel, by decide +kernel⟩
abbrev s_Order___eq__ : Stmt := inClass (topS 22) 2
abbrev N_Order___eq__ : List Str := ["self", "other"]
theorem sc_Order___eq__ : FnScope N_Order___eq__ ["self", "other"] (defScope s_Order___eq__) := ⟨rfl, rfl, rfl, by decide +kernel, rfl, by decide +kernel, by decide +kernel⟩
abbrev s_Order___str__ : Stmt := inClass (topS 22) 3
abbrev N_Order___str__ : List Str := ["self", "covers", "x", "y"]
theorem sc_Order___str__ : FnScope N_Order___str__ ["self"] (defScope s_Order___str__) := ⟨rfl, rfl, rfl, by decide +kernel, rfl, by decide +kernel, by decide +kernel⟩
abbrev s_Order_size : Stmt := inClass (topS 22) 4
abbrev N_Order_size : List Str := ["self"]
theorem sc_Order_size : FnScope N_Order_size ["self"] (defScope s_Order_size) := ⟨rfl, rfl, rfl, by decide +kernel, rfl, by decide +kernel, by decide +kernel⟩
abbrev s_Order_below : Stmt := inClass (topS 22) 5
abbrev N_Order_below : List Str := ["self"]
theorem sc_Order_below : FnScope N_Order_below ["self"] (defScope s_Order_below) := ⟨rfl, rfl, rfl, by decide +kernel, rfl, by decide +kernel, by decide +kernel⟩
abbrev s_Order_less : Stmt := inClass (topS 22) 6
abbrev N_Order_less : List Str := ["self", "x", "y"]
theorem sc_Order_less : FnScope N_Order_less ["self", "x", "y"] (defScope s_Order_less) := ⟨rfl, rfl, rfl, by decide +kernel, rfl, by decide +kernel, by decide +kernel⟩
abbrev s_Order_related : Stmt := inClass (topS 22) 8
abbrev N_Order_related : List Str := ["self", "x", "y"]
theorem sc_Order_related : FnScope N_Order_related ["self", "x", "y"] (defScope s_Order_related) := ⟨rfl, rfl, rfl, by decide +kernel, rfl, by decide +kernel, by decide +kernel⟩
abbrev s_Order_pairs : Stmt := inClass (topS 22) 9
abbrev N_Order_pairs : List Str := ["self"]
theorem sc_Order_pairs : FnScope N_Order_pairs ["self"] (defScope s_Order_pairs) := ⟨rfl, rfl, rfl, by decide +kernel, rfl, by decide +kernel, by decide +kernel⟩
abbrev s_Order_covers : Stmt := inClass (topS 22) 10
abbrev N_Order_covers : List Str := ["self"]
theorem sc_Order_covers : FnScope N_Order_covers ["self"] (defScope s_Order_covers) := ⟨rfl, rfl, rfl, by decide +kernel, rfl, by decide +kernel, by decide +kernel⟩
abbrev s_Order_part : Stmt := inClass (topS 22) 14
abbrev N_Order_part : List Str := ["self", "bits", "points", "places", "x", "y"]
theorem sc_Order_part : FnScope N_Order_part ["self", "bits"] (defScope s_Order_part) := ⟨rfl, rfl, rfl, by decide +kernel, rfl, by decide +kernel, by decide +kernel⟩
abbrev s_Order_is_chain : Stmt := inClass (topS 22) 16
abbrev N_Order_is_chain : List Str := ["self", "bits", "points", "x", "y"]
theorem sc_Order_is_chain : FnScope N_Order_is_chain ["self", "bits"] (defScope s_Order_is_chain) := ⟨rfl, rfl, rfl, by decide +kernel, rfl, by decide +kernel, by decide +kernel⟩
abbrev s_Order_is_antichain : Stmt := inClass (topS 22) 17
abbrev N_Order_is_antichain : List Str := ["self", "bits", "x"]
theorem sc_Order_is_antichain : FnScope N_Order_is_antichain ["self", "bits"] (defScope s_Order_is_antichain) := ⟨rfl, rfl, rfl, by decide +kernel, rfl, by decide +kernel, by decide +kernel⟩
abbrev s_check_size : Stmt := topS 23
abbrev N_check_size : List Str := ["n"]
theorem sc_check_size : FnScope N_check_size ["n"] (defScope s_check_size) := ⟨rfl, rfl, rfl, by decide +kernel, rfl, by decide +kernel, by decide +kernel⟩
abbrev s_check_pairs : Stmt := topS 24
abbrev N_check_pairs : List Str := ["n", "pairs", "item"]
theorem sc_check_pairs : FnScope N_check_pairs ["n", "pairs"] (defScope s_check_pairs) := ⟨rfl, rfl, rfl, by decide +kernel, rfl, by decide +kernel, by decide +kernel⟩
abbrev s_is_pair : Stmt := topS 25
abbrev N_is_pair : List Str := ["value", "n"]
theorem sc_is_pair : FnScope N_is_pair ["value", "n"] (defScope s_is_pair) := ⟨rfl, rfl, rfl, by decide +kernel, rfl, by decide +kernel, by decide +kernel⟩
abbrev s_closed : Stmt := topS 26
abbrev N_closed : List Str := ["n", "pairs", "above", "x", "y", "middle"]
theorem sc_closed : FnScope N_closed ["n", "pairs"] (defScope s_closed) := ⟨rfl, rfl, rfl, by decide +kernel, rfl, by decide +kernel, by decide +kernel⟩
abbrev s_turned_sets : Stmt := topS 27
abbrev N_turned_sets : List Str := ["above", "points", "x", "y"]
theorem sc_turned_sets : FnScope N_turned_sets ["above"] (defScope s_turned_sets) := ⟨rfl, rfl, rfl, by decide +kernel, rfl, by decide +kernel, by decide +kernel⟩
abbrev s_related_pairs : Stmt := topS 28
abbrev N_related_pairs : List Str := ["above", "x", "y"]
theorem sc_related_pairs : FnScope N_related_pairs ["above"] (defScope s_related_pairs) := ⟨rfl, rfl, rfl, by decide +kernel, rfl, by decide +kernel, by decide +kernel⟩
abbrev s_cover_pairs : Stmt := topS 29
abbrev N_cover_pairs : List Str := ["above", "below", "x", "y"]
theorem sc_cover_pairs : FnScope N_cover_pairs ["above"] (defScope s_cover_pairs) := ⟨rfl, rfl, rfl, by decide +kernel, rfl, by decide +kernel, by decide +kernel⟩
abbrev s_law_numbers : Stmt := topS 31
abbrev N_law_numbers : List Str := ["script", "found", "k", "cell", "turn", "i", "mixed"]
theorem sc_law_numbers : FnScope N_law_numbers ["script"] (defScope s_law_numbers) := ⟨rfl, rfl, rfl, by decide +kernel, rfl, by decide +kernel, by decide +kernel⟩
abbrev s_law_next : Stmt := topS 32
abbrev N_law_next : List Str := ["numbers", "many"]
theorem sc_law_next : FnScope N_law_next ["numbers", "many"] (defScope s_law_next) := ⟨rfl, rfl, rfl, by decide +kernel, rfl, by decide +kernel, by decide +kernel⟩
abbrev s_law_order : Stmt := topS 33
abbrev N_law_order : List Str := ["numbers", "most", "n", "images", "rest", "k", "turn", "thick", "pairs", "i", "j"]
theorem sc_law_order : FnScope N_law_order ["numbers", "most"] (defScope s_law_order) := ⟨rfl, rfl, rfl, by decide +kernel, rfl, by decide +kernel, by decide +kernel⟩
abbrev s_law_table : Stmt := topS 34
abbrev N_law_table : List Str := ["order", "n", "table", "y", "x"]
theorem sc_law_table : FnScope N_law_table ["order"] (defScope s_law_table) := ⟨rfl, rfl, rfl, by decide +kernel, rfl, by decide +kernel, by decide +kernel⟩
abbrev s_law_fits : Stmt := topS 35
abbrev N_law_fits : List Str := ["table", "points", "related", "x", "y"]
theorem sc_law_fits : FnScope N_law_fits ["table", "points", "related"] (defScope s_law_fits) := ⟨rfl, rfl, rfl, by decide +kernel, rfl, by decide +kernel, by decide +kernel⟩
abbrev s_law : Stmt := topS 36
abbrev N_law : List Str := ["script", "numbers", "order", "n", "table", "points", "x", "labels", "parting", "label", "part", "chains", "antichains", "bad", "value"]
theorem sc_law : FnScope N_law ["script"] (defScope s_law) := ⟨rfl, rfl, rfl, by decide +kernel, rfl, by decide +kernel, by decide +kernel⟩
/-! ### the parts of a text by number -/
def kidE : Expr → Nat → Expr
  | .BoolOp _ vs _, i => vs.getD i (.Constant .none 0 ⟨0, 0, 0, 0⟩)
  | .BinOp l _ r _, i => if i = 0 then l else r
  | .UnaryOp _ o _, _ => o
  | .IfExp t b o _, i => if i = 0 then t else if i = 1 then b else o
  | .ListComp e gs _ _, i => match i, gs with
    | 0, _ => e
    | 1, g :: _ => g.iter
    | 2, g :: _ => g.ifs.getD 0 (.Constant .none 0 ⟨0, 0, 0, 0⟩)
    | 3, _ :: g :: _ => g.iter
    | 4, _ :: g :: _ => g.ifs.getD 0 (.Constant .none 0 ⟨0, 0, 0, 0⟩)
    | _, _ => e
  | .Lambda _ b _ _, _ => b
  | .Compare l _ bs _, i => match i with
    | 0 => l
    | i + 1 => bs.getD i (.Constant .none 0 ⟨0, 0, 0, 0⟩)
  | .Call f es _ _, i => match i with
    | 0 => f
    | i + 1 => es.getD i (.Constant .none 0 ⟨0, 0, 0, 0⟩)
  | .Attribute v _ _, _ => v
  | .Subscript v s _, i => if i = 0 then v else s
  | .Starred v _, _ => v
  | .FormattedValue v _ _ _, _ => v
  | .JoinedStr vs _, i => vs.getD i (.Constant .none 0 ⟨0, 0, 0, 0⟩)
  | .List es _, i => es.getD i (.Constant .none 0 ⟨0, 0, 0, 0⟩)
  | .Tuple es _ _, i => es.getD i (.Constant .none 0 ⟨0, 0, 0, 0⟩)
  | e, _ => e
def kidS : Stmt → Nat → Expr
  | .Return (some e) _, _ => e
  | .Assign _ v _, _ => v
  | .For _ it _ _ _, _ => it
  | .While t _ _ _, _ => t
  | .If t _ _ _, _ => t
  | .Expr v _, _ => v
  | _, _ => .Constant .none 0 ⟨0, 0, 0, 0⟩
def subS : Stmt → Nat → Stmt
  | .For _ _ b o _, i => if i < 1000 then b.getD i (.Pass ⟨0, 0, 0, 0⟩) else o.getD (i - 1000) (.Pass ⟨0, 0, 0, 0⟩)
  | .While _ b o _, i => if i < 1000 then b.getD i (.Pass ⟨0, 0, 0, 0⟩) else o.getD (i - 1000) (.Pass ⟨0, 0, 0, 0⟩)
  | .If _ b o _, i => if i < 1000 then b.getD i (.Pass ⟨0, 0, 0, 0⟩) else o.getD (i - 1000) (.Pass ⟨0, 0, 0, 0⟩)
  | .Try b hs _ _ _, i => if i < 1000 then b.getD i (.Pass ⟨0, 0, 0, 0⟩) else match hs.getD (i / 1000 - 1) (.ExceptHandler none none [] ⟨0, 0, 0, 0⟩) with
    | .ExceptHandler _ _ b _ => b.getD (i % 1000) (.Pass ⟨0, 0, 0, 0⟩)
  | s, _ => s

/-! ### promises of the small defs -/
def isPt (n : Int) : Da → Bool
  | .int i => decide (0 ≤ i) && decide (i < n)
  | _ => false
theorem int_of {d : Da} (h : daInt d = true) : ∃ i, d = .int i := by
  cases d with
  | int i => exact ⟨i, rfl⟩
  | _ => cases h
def f_isint : List Da → Da → Prop := fun ds d => ∃ x T, ds = [x] ∧ tyD x = some T ∧ d = .bl (daInt x)
def f_ispt : List Da → Da → Prop := fun ds d => ∃ x T n, ds = [x, .int n] ∧ tyD x = some T ∧ d = .bl (isPt n x)
def f_has : List Da → Da → Prop := fun ds d => ∃ b x : Nat, ds = [.int (b : Int), .int (x : Int)] ∧ d = .bl (b.testBit x)
def f_lowest : List Da → Da → Prop := fun ds d => ∃ k a : Nat, ds = [.int ((2 ^ k * (2 * a + 1) : Nat) : Int)] ∧ d = .int (k : Int)
def dNs (l : List Nat) : List Da := l.map fun x : Nat => Da.int (x : Int)
def f_members : List Da → Da → Prop := fun ds d => ∃ b n : Nat, ds = [.int (b : Int)] ∧ b < 2 ^ n ∧ n ≤ 100000 ∧ d = .tup (dNs (mem n b))
section
variable {P : Program} {w : World} {K : PySem.W.Frag} {mg : Str → Option Value} {base : Heap} {f : Addr} {fd : FuncData}
theorem pu_len {g : List Da → Da → Prop} {n : Nat} (h : ∀ ds d, g ds d → ds.length = n) : ∀ vs H Q E, Pu K g vs H Q E → vs.length = n := fun vs H Q E ⟨B, ds, d, _, r, hf, _⟩ => by rw [r.length, h ds d hf]
theorem ok_isint (F : Fun K "is_integer" "is_integer" s_is_integer f fd) (zi : mg "isinstance" = none) (z1 : mg "int" = none) (z2 : mg "bool" = none) : FnOk P w K mg base CX0 1 f fd ["value"] (Pu K f_isint) := by
  refine F.ok sc_is_integer (pu_len fun ds d ⟨x, T, e, _⟩ => by rw [e]; rfl) (fun cdv A outer s H vs Q E hr h => ?_)
  obtain ⟨B, ds, d, e, ra, ⟨x, T, rfl, hT, rfl⟩, k⟩ := h
  obtain ⟨v, rfl, r⟩ := rpa1 ra
  refine ⟨_, pss_one (ps_ret (pe_and (pe_callB call_isi (by rfl) zi (by decide +kernel) (pa_cons (pv 0) (pa_cons (pe_bltn (v := .ty "int") (by rfl) z1 (by decide +kernel) rfl) pa_nil)))
    (pe_one (pe_not (pe_callB call_isi (by rfl) zi (by decide +kernel) (pa_cons (pv 0) (pa_cons (pe_bltn (v := .ty "bool") (by rfl) z2 (by decide +kernel) rfl) pa_nil))))))), ?_⟩
  have hs : Sl K B [some x] [some v] := ⟨⟨_, rfl, r⟩, trivial⟩
  refine q_ret ((g_and (g_isi (g_var rfl) hT (kit_int hT)) fun _ => g_not (g_isi (g_var rfl) hT (kit_bool hT))).to ?_) hs e k
  cases x <;> rfl
theorem ok_ispt (F : Fun K "is_point" "is_point" s_is_point f fd) (c : Cal P w K mg base CX0 1 "is_integer" ["value"] (Pu K f_isint)) : FnOk P w K mg base CX0 2 f fd ["value", "n"] (Pu K f_ispt) := by
  refine F.ok sc_is_point (pu_len fun ds d ⟨x, T, n, e, _⟩ => by rw [e]; rfl) (fun cdv A outer s H vs Q E hr h => ?_)
  obtain ⟨B, ds, d, e, ra, ⟨x, T, n, rfl, hT, rfl⟩, k⟩ := h
  obtain ⟨v, u, rfl, r1, r2⟩ := rpa2 ra
  refine ⟨_, pss_one (ps_ret (pe_and (pe_cal c hr pass0 (pa_cons (pv 0) pa_nil)) (pe_one (pe_chain op_le op_lt pe_int (pv 0) (pv 1))))), ?_⟩
  have hs : Sl K B [some x, some (.int n)] [some v, some u] := ⟨⟨_, rfl, r1⟩, ⟨_, rfl, r2⟩, trivial⟩
  refine q_ret ((g_and (b := isPt n x) (g_call (s_cons (g_var rfl) s_nil) ⟨x, T, rfl, hT, rfl⟩) fun hi => ?_).to ?_) hs e k
  · obtain ⟨i, rfl⟩ := int_of hi
    exact g_chain (k := decide ((0 : Int) ≤ i)) g_int (g_var rfl) (r_I0 fun _ => rfl) (fun _ => g_var rfl) (fun h0 => r_I0 fun _ => by
      show V.bl (decide (i < n)) = V.bl (decide (0 ≤ i) && decide (i < n))
      rw [h0, Bool.true_and]) (fun h0 => by
      show (decide (0 ≤ i) && decide (i < n)) = false
      rw [h0, Bool.false_and])
  · cases x <;> simp [daInt, isPt]
theorem ok_has (F : Fun K "has" "has" s_has f fd) : FnOk P w K mg base CX0 1 f fd ["bits", "x"] (Pu K f_has) := by
  refine F.ok sc_has (pu_len fun ds d ⟨b, x, e, _⟩ => by rw [e]; rfl) (fun cdv A outer s H vs Q E hr h => ?_)
  obtain ⟨B, ds, d, e, ra, ⟨b, x, rfl, rfl⟩, k⟩ := h
  obtain ⟨v, u, rfl, r1, r2⟩ := rpa2 ra
  refine ⟨_, pss_one (ps_ret (pe_cmpR op_eq (pe_op op_and (pe_op op_shr (pv 0) (pv 1)) pe_int) pe_int (nomark _))), ?_⟩
  have hs : Sl K B [some (.int (b : Int)), some (.int (x : Int))] [some v, some u] := ⟨⟨_, rfl, r1⟩, ⟨_, rfl, r2⟩, trivial⟩
  refine q_ret ((g_eqI (g_II (g_IC (g_var rfl) (g_var rfl) (by exact Int.natCast_nonneg _)) g_int) g_int).to ?_) hs e k
  have e1 : (b : Int) / 2 ^ ((x : Int)).toNat = ((b / 2 ^ x : Nat) : Int) := by
    rw [Int.toNat_natCast, ← PySem.W.kbt_cast]
    rfl
  have e2 : Builtin.bitAnd ((b / 2 ^ x : Nat) : Int) 1 = ((b / 2 ^ x % 2 : Nat) : Int) := PySem.W.kbt_mask ((b / 2 ^ x : Nat) : Int) 1
  rw [e1, e2, Nat.testBit_eq_decide_div_mod_eq]
  congr 1
  exact decide_eq_decide.mpr (by omega)
theorem ok_lowest (F : Fun K "lowest" "lowest" s_lowest f fd) : FnOk P w K mg base CX0 1 f fd ["bits"] (Pu K f_lowest) := by
  refine F.ok sc_lowest (pu_len fun ds d ⟨b, x, e, _⟩ => by rw [e]; rfl) (fun cdv A outer s H vs Q E hr h => ?_)
  obtain ⟨B, ds, d, e, ra, ⟨i, a, rfl, rfl⟩, k⟩ := h
  obtain ⟨v, rfl, r1⟩ := rpa1 ra
  have hp : 0 < 2 ^ i * (2 * a + 1) := Nat.mul_pos (Nat.two_pow_pos i) (by omega)
  refine ⟨_, pss_cons (ps_if (pt_cmpR op_eq (pv 0) pe_int (nomark _)) (pss_one ps_never) pss_nil)
    (pss_one (ps_ret (pe_op op_sub (pe_bits (pe_op op_and (pv 0) (pe_un un_neg (pv 0)))) pe_int))), ?_⟩
  have hs : Sl K B [some (.int ((2 ^ i * (2 * a + 1) : Nat) : Int))] [some v] := ⟨⟨_, rfl, r1⟩, trivial⟩
  refine q_when (b_test (g_eqI (g_var rfl) g_int)) hs e (fun hb => ?_) (fun _ B2 H2 n hs => ?_)
  · have := of_decide_eq_true hb
    omega
  · refine q_ret (d := .int (i : Int)) ((g_II (i := ((i + 1 : Nat) : Int)) ?_ g_int).to ?_) hs n.ok (k.mono n)
    · refine fun σ B H hs e Q k => g_II (g_var rfl) (g_U (g_var rfl)) σ B H hs e _ fun v B2 H2 n r => ⟨_, r, ?_⟩
      rw [bit_low, bits_pow]
      exact k _ B2 H2 n rfl
    · congr 1
      omega
theorem ok_members (F : Fun K "members" "members" s_members f fd) (c : Cal P w K mg base CX0 1 "lowest" ["bits"] (Pu K f_lowest)) (zt : mg "tuple" = none) : FnOk P w K mg base CX0 2 f fd ["bits"] (Pu K f_members) := by
  refine F.ok sc_members (pu_len fun ds d ⟨b, n, e, _⟩ => by rw [e]; rfl) (fun cdv A outer s H vs Q E hr h => ?_)
  obtain ⟨B, ds, d, e, ra, ⟨b, n, rfl, hb, hn, rfl⟩, k⟩ := h
  obtain ⟨v, rfl, r1⟩ := rpa1 ra
  refine ⟨_, pss_cons (ps_set (i := 1) sc_members.nd rfl (.inl rfl) (pe_lst pa_nil))
    (pss_cons (ps_while PassesOwn.never (pt_cmpR op_gt (pv 0) pe_int (nomark _))
      (pss_cons (ps_expr (pe_bm PySem.F.plainAttrs_list PySem.F.slot_list_append PySem.F.type_list_append mt_append (pv 1) (pa_cons (pe_cal c hr pass0 (pa_cons (pv 0) pa_nil)) pa_nil)))
        (pss_one (ps_set (i := 0) sc_members.nd rfl (.inl rfl) (pe_op op_and (pv 0) (pe_op op_sub (pv 0) pe_int))))))
    (pss_one (ps_ret (pe_tupleOf (by rfl) zt (pv 1))))), ?_⟩
  -- points = []
  refine ⟨Nat.zero_le _, fun l hl => ?_⟩
  -- the loop: behind j the points below j are there, the rest is in bits
  refine q_while (K := K) (B := B) (fun m σ' B' H' => ∃ j acc, m = n - j ∧ j ≤ n ∧ σ' = [some (.int ((2 ^ j * (b / 2 ^ j) : Nat) : Int)), some (.ref l)] ∧ Nx B H B' H' ∧ B' l = none ∧ H' l = some (.lst acc) ∧ RpA K B' (dNs (mem j b)) acc) n
    ⟨0, [], by simp, Nat.zero_le _, ?_, .out e hl, fresh_back e hl, upd_same, rfl⟩ ?_
  · have e0 : (2 ^ 0 * (b / 2 ^ 0) : Nat) = b := by
      rw [Nat.pow_zero, Nat.div_one, Nat.one_mul]
    rw [e0, show v = V.int (b : Int) from r1]
    rfl
  · rintro m σ' B' H' ⟨j, acc, rfl, hj, rfl, nx, hB, hH, ra⟩
    refine ⟨[some (.int ((2 ^ j * (b / 2 ^ j) : Nat) : Int)), none], _, ⟨⟨_, rfl, rfl⟩, trivial, trivial⟩, nx.ok, b_test (g_IB (g_var rfl) g_int), fun hb2 B2 H2 n2 => ?_, fun hb2 B2 H2 n2 => ?_⟩
    · -- a turn
      have hpos : 0 < b / 2 ^ j := by
        have h0 := of_decide_eq_true hb2
        have h1 : 0 < 2 ^ j * (b / 2 ^ j) := by omega
        exact Nat.pos_of_mul_pos_left h1
      obtain ⟨i, a, hji, e1, e2, e3⟩ := next_bit hpos
      have hin : i < n := by
        refine Nat.lt_of_not_le fun hle => ?_
        have h2 : b / 2 ^ i = 2 * a + 1 ∨ True := .inr trivial
        have ht : i ∈ mem (i + 1) b := by
          rw [e2]
          simp
        have := (mem_lt ht).2
        rw [Nat.testBit_lt_two_pow (Nat.lt_of_lt_of_le hb (Nat.pow_le_pow_right (by decide) hle))] at this
        cases this
      have m2 := n2.apart hB hH
      rw [e1]
      have hs2 : Sl K B2 [some (.int ((2 ^ i * (2 * a + 1) : Nat) : Int)), none] [some (.int ((2 ^ i * (2 * a + 1) : Nat) : Int)), some (.ref l)] := ⟨⟨_, rfl, rfl⟩, trivial, trivial⟩
      refine q_app (i := 1) (l := l) (xs := acc) rfl (g_call (d := .int (i : Int)) (s_cons (g_var rfl) s_nil) ⟨i, a, rfl, rfl⟩) hs2 n2.ok m2.1 m2.2 ?_ fun v3 B3 H3 n3 r3 => ?_
      · rw [ra.length]
        unfold dNs
        rw [List.length_map]
        have := List.length_filter_le (fun x => b.testBit x) (List.range j)
        rw [List.length_range] at this
        exact Nat.lt_of_le_of_lt this (by omega)
      · have m3 := n3.apart m2.1 m2.2
        refine z_asg (i := 0) (K := K) (B := B3) (g_II (g_var rfl) (g_II (g_var rfl) g_int)) (hs2.mono n3.b) (ex_mut n3.ok m3.1 (ml_of m3.2)) fun v4 B4 H4 n4 r4 _ => ?_
        have m4 := n4.apart (o := .lst (acc ++ [v3])) m3.1 upd_same
        refine ⟨n - (i + 1), by omega, B4, i + 1, acc ++ [v3], rfl, hin, ?_, ?_, m4.1, m4.2, ?_⟩
        · have ev : v4 = V.int (Builtin.bitAnd ((2 ^ i * (2 * a + 1) : Nat) : Int) (((2 ^ i * (2 * a + 1) : Nat) : Int) - 1)) := r4
          have hp : 0 < 2 ^ i * (2 * a + 1) := Nat.mul_pos (Nat.two_pow_pos i) (by omega)
          rw [ev, show (((2 ^ i * (2 * a + 1) : Nat) : Int) - 1) = ((2 ^ i * (2 * a + 1) - 1 : Nat) : Int) by omega, bitAnd_nat, and_pred_low, e3]
          rfl
        · have n5 := (nx.trans n2).trans n3
          exact ((n5.mut (o := .lst (acc ++ [v3])) hl m3.1 (ml_of m3.2)).trans n4)
        · rw [e2]
          unfold dNs
          rw [List.map_append]
          exact (RpA.mono ((n2.b.trans n3.b).trans n4.b) _ _ ra).append (.one (Rp.mono n4.b _ _ r3))
    · -- the end
      have h0 := of_decide_eq_false hb2
      have hz : b / 2 ^ j = 0 := by
        have h1 : 2 ^ j * (b / 2 ^ j) = 0 := by omega
        rcases Nat.mul_eq_zero.mp h1 with h2 | h2
        · have := Nat.two_pow_pos j
          omega
        · exact h2
      have hbj : b < 2 ^ j := by
        have := Nat.div_add_mod b (2 ^ j)
        have h3 := Nat.mod_lt b (Nat.two_pow_pos j)
        rw [hz] at this
        omega
      have m2 := n2.apart hB hH
      rw [mem_big hbj hb] at ra
      have n5 := (nx.trans n2).frz hl m2.1 m2.2
      refine q_ret (K := K) (Γ := [none, some (.lst (dNs (mem n b)))]) (g_tupL (g_var rfl)) ⟨trivial, ⟨_, rfl, l, acc, rfl, upd_same, RpA.mono (n2.b.trans (.new m2.1)) _ _ ra⟩, trivial⟩ n5.ok (k.mono n5)
end

/-! ### orders -/
def dP (p : Nat × Nat) : Da := .tup [.int (p.1 : Int), .int (p.2 : Int)]
def dPs (ps : List (Nat × Nat)) : List Da := ps.map dP
def isPr (n : Int) : Da → Bool
  | .tup [a, b] => isPt n a && isPt n b
  | _ => false
/-- what the defs look at: a value of a built-in type, a pair's items too -/
def seen : Da → Prop
  | .tup ds => ∀ d ∈ ds, tyD d ≠ none
  | d => tyD d ≠ none
theorem seen_ty {d : Da} (h : seen d) : ∃ T, tyD d = some T := by
  cases d with
  | ins => exact absurd rfl h
  | rng => exact absurd rfl h
  | raw => exact absurd rfl h
  | fn => exact absurd rfl h
  | non => exact ⟨_, rfl⟩
  | bl => exact ⟨_, rfl⟩
  | int => exact ⟨_, rfl⟩
  | str => exact ⟨_, rfl⟩
  | lst => exact ⟨_, rfl⟩
  | tup => exact ⟨_, rfl⟩
def f_ispair : List Da → Da → Prop := fun ds d => ∃ x n, ds = [x, .int n] ∧ seen x ∧ d = .bl (isPr n x)
def f_chksz : List Da → Da → Prop := fun ds d => ∃ n : Int, ds = [.int n] ∧ 0 ≤ n ∧ n ≤ 10 ∧ d = .non
def Row (ds : List Da) (pl : Da) : Prop := pl = .lst ds ∨ pl = .tup ds
def f_chkpr : List Da → Da → Prop := fun ds d => ∃ n ps pl, ds = [.int n, pl] ∧ Row ps pl ∧ ps.length ≤ 100000 ∧ (∀ p ∈ ps, seen p ∧ isPr n p = true) ∧ d = .non
def tab (n : Nat) (f : Nat → Nat) : List Da := (List.range n).map fun x => Da.int (f x : Int)
def InP (n : Nat) (ps : List (Nat × Nat)) : Prop := ∀ p ∈ ps, p.1 < n ∧ p.2 < n
def f_closed : List Da → Da → Prop := fun ds d => ∃ (n : Nat) (ps : List (Nat × Nat)) (pl : Da), ds = [.int (n : Int), pl] ∧ Row (dPs ps) pl ∧ n ≤ 1000 ∧ ps.length ≤ 100000 ∧ InP n ps ∧ d = .tup (tab n (closF n ps))
abbrev ordN : List Str := ["n", "above"]
def ordD (n : Nat) (f : Nat → Nat) : List Da := [.int (n : Int), .tup (tab n f)]
def dOrd (C : Addr) (n : Nat) (f : Nat → Nat) : Da := .ins C ordN (ordD n f)
/-- Order(n, pairs), no ring -/
def f_order : List Da → List Str → List Da → Prop := fun ds ns fs => ∃ (n : Nat) (ps : List (Nat × Nat)) (pl : Da), ds = [.int (n : Int), pl] ∧ Row (dPs ps) pl ∧ n ≤ 10 ∧ ps.length ≤ 100000 ∧ InP n ps ∧ (∀ x, x < n → clos n ps x x = false) ∧ ns = ordN ∧ fs = ordD n (closF n ps)
def f_less (C : Addr) : List Da → Da → Prop := fun ds d => ∃ (n : Nat) (f : Nat → Nat) (x y : Nat), ds = [dOrd C n f, .int (x : Int), .int (y : Int)] ∧ x < n ∧ d = .bl ((f x).testBit y)
def f_related (C : Addr) : List Da → Da → Prop := fun ds d => ∃ (n : Nat) (f : Nat → Nat) (x y : Nat), ds = [dOrd C n f, .int (x : Int), .int (y : Int)] ∧ x < n ∧ y < n ∧ d = .bl (decide (x = y) || ((f x).testBit y || (f y).testBit x))
def f_isch (C : Addr) : List Da → Da → Prop := fun ds d => ∃ (n : Nat) (f : Nat → Nat) (b : Nat), ds = [dOrd C n f, .int (b : Int)] ∧ n ≤ 500 ∧ b < 2 ^ n ∧ d = .bl ((mem n b).all fun x => (mem n b).all fun y => decide (x = y) || ((f x).testBit y || (f y).testBit x))
def f_isanti (C : Addr) : List Da → Da → Prop := fun ds d => ∃ (n : Nat) (f : Nat → Nat) (b : Nat), ds = [dOrd C n f, .int (b : Int)] ∧ n ≤ 500 ∧ b < 2 ^ n ∧ d = .bl ((mem n b).all fun x => f x &&& b == 0)
theorem isPr_dP {n : Nat} {p : Nat × Nat} (h : p.1 < n ∧ p.2 < n) : isPr (n : Int) (dP p) = true := by
  show (isPt _ _ && isPt _ _) = true
  simp [isPt, h.1, h.2]
theorem seen_dP (p : Nat × Nat) : seen (dP p) := fun d hd => by
  rcases List.mem_cons.mp hd with e | hd
  · rw [e]; exact fun z => nomatch z
  · rcases List.mem_cons.mp hd with e | hd
    · rw [e]; exact fun z => nomatch z
    · cases hd
section
variable {P : Program} {w : World} {K : PySem.W.Frag} {mg : Str → Option Value} {base : Heap} {f C : Addr} {fd : FuncData}
theorem ok_ispair (F : Fun K "is_pair" "is_pair" s_is_pair f fd) (c : Cal P w K mg base CX0 2 "is_point" ["value", "n"] (Pu K f_ispt)) (zi : mg "isinstance" = none) (zt : mg "tuple" = none) (zl : mg "len" = none) :
    FnOk P w K mg base CX0 3 f fd ["value", "n"] (Pu K f_ispair) := by
  refine F.ok sc_is_pair (pu_len fun ds d ⟨x, n, e, _⟩ => by rw [e]; rfl) (fun cdv A outer s H vs Q E hr h => ?_)
  obtain ⟨B, ds, d, e, ra, ⟨x, n, rfl, hx, rfl⟩, k⟩ := h
  obtain ⟨v, u, rfl, r1, r2⟩ := rpa2 ra
  refine ⟨_, pss_one (ps_ret (pe_and (pe_callB call_isi (by rfl) zi (by decide +kernel) (pa_cons (pv 0) (pa_cons (pe_bltn (v := .ty "tuple") (by rfl) zt (by decide +kernel) rfl) pa_nil)))
    (pe_and (pe_cmpR op_eq (pe_callB call_len_seq (by rfl) zl PySem.boot_len (pa_cons (pv 0) pa_nil)) pe_int (nomark _))
    (pe_and (pe_cal c hr pass0 (pa_cons (pe_ix ix_tup (pv 0) pe_int (fun _ _ => rfl)) (pa_cons (pv 1) pa_nil)))
    (pe_one (pe_cal c hr pass0 (pa_cons (pe_ix ix_tup (pv 0) pe_int (fun _ _ => rfl)) (pa_cons (pv 1) pa_nil)))))))), ?_⟩
  obtain ⟨T, hT⟩ := seen_ty hx
  have hs : Sl K B [some x, some (.int n)] [some v, some u] := ⟨⟨_, rfl, r1⟩, ⟨_, rfl, r2⟩, trivial⟩
  have g0 := g_isi (K := K) (Γ := [some x, some (.int n)]) (ta := tVar 0) (g_var rfl) hT (kit_tuple hT)
  cases x with
  | tup ds =>
    refine q_ret ((g_and g0 fun _ => g_and (g_eqI (g_cb (s_cons (g_var rfl) s_nil) c_lenT) g_int) (b := isPr n (.tup ds)) fun h2 => ?_).to ?_) hs e k
    · have h3 : ds.length = 2 := by
        have := of_decide_eq_true h2
        omega
      obtain ⟨p, q, rfl⟩ : ∃ p q, ds = [p, q] := by
        match ds, h3 with
        | [p, q], _ => exact ⟨p, q, rfl⟩
      obtain ⟨T1, h1⟩ : ∃ T, tyD p = some T := Option.ne_none_iff_exists'.mp (hx p (by simp))
      obtain ⟨T2, h2⟩ : ∃ T, tyD q = some T := Option.ne_none_iff_exists'.mp (hx q (by simp))
      exact g_and (g_call (s_cons (g_ixT (g_var rfl) g_int (at_nat (j := 0) rfl)) (s_cons (g_var rfl) s_nil)) ⟨p, T1, n, rfl, h1, rfl⟩) fun _ => g_call (s_cons (g_ixT (g_var rfl) g_int (at_nat (j := 1) rfl)) (s_cons (g_var rfl) s_nil)) ⟨q, T2, n, rfl, h2, rfl⟩
    · congr 1
      show (true && (decide ((ds.length : Int) = 2) && isPr n (.tup ds))) = isPr n (.tup ds)
      match ds with
      | [] => rfl
      | [_] => rfl
      | [_, _] => rfl
      | _ :: _ :: _ :: r =>
        rw [decide_eq_false (by simp only [List.length_cons]; omega)]
        rfl
  | _ => exact q_ret ((g_and g0 (b := false) fun h => nomatch h).to rfl) hs e k
theorem ok_chksz (F : Fun K "check_size" "check_size" s_check_size f fd) (c : Cal P w K mg base CX0 1 "is_integer" ["value"] (Pu K f_isint)) {t : Tok} (zm : mg "MOST_POINTS" = some (.int 10 t)) : FnOk P w K mg base CX0 2 f fd ["n"] (Pu K f_chksz) := by
  refine F.ok sc_check_size (pu_len fun ds d ⟨n, e, _⟩ => by rw [e]; rfl) (fun cdv A outer s H vs Q E hr h => ?_)
  obtain ⟨B, ds, d, e, ra, ⟨n, rfl, h0, h1, rfl⟩, k⟩ := h
  obtain ⟨v, rfl, r1⟩ := rpa1 ra
  refine ⟨_, pss_cons (ps_if (pw_or (pt_not (pt_val (pe_cal c hr pass0 (pa_cons (pv 0) pa_nil)))) (pw_or1 (pt_cmpR op_lt (pv 0) pe_int (nomark _)))).pt (pss_one ps_never) pss_nil)
    (pss_one (ps_if (pt_cmpR op_gt (pv 0) (pe_glob (v := .int 10) (by rfl) zm ⟨_, rfl⟩) (nomark _)) (pss_one ps_never) pss_nil)), ?_⟩
  have hs : Sl K B [some (.int n)] [some v] := ⟨⟨_, rfl, r1⟩, trivial⟩
  refine q_when ((b_or (b_not (b_B (g_call (s_cons (g_var rfl) s_nil) ⟨_, _, rfl, rfl, rfl⟩))) (fun _ => b_test (g_IB (g_var rfl) g_int))).to (b := false) ?_) hs e (fun h => nomatch h) (fun _ B2 H2 n2 hs => ?_)
  · show (!true || decide (n < 0)) = false
    rw [decide_eq_false (by omega)]
    rfl
  · refine z_when ((b_test (g_IB (g_var rfl) g_int)).to (b := false) (decide_eq_false (by omega))) hs n2.ok (fun h => nomatch h) (fun _ B3 H3 n3 _ => (k.mono (n2.trans n3)).now n3.ok rfl)
theorem row_ty {ds : List Da} {pl : Da} (h : Row ds pl) : ∃ T b1 b2, tyD pl = some T ∧ kitB T "list" = some b1 ∧ kitB T "tuple" = some b2 ∧ (b1 || b2) = true := by
  rcases h with rfl | rfl
  · exact ⟨_, _, _, rfl, kit_list (d := .lst ds) rfl, kit_tuple (d := .lst ds) rfl, rfl⟩
  · exact ⟨_, _, _, rfl, kit_list (d := .tup ds) rfl, kit_tuple (d := .tup ds) rfl, rfl⟩
theorem i_row {Γ : List (Option Da)} {tl : TE} {ds : List Da} {pl : Da} (h : EvG K Γ tl pl) (r : Row ds pl) : EvI K Γ (iSeq K tl) ds := by
  rcases r with rfl | rfl
  · exact i_seqL h
  · exact i_seqT h
theorem all_tt {α : Type} {l : List α} {f : α → Bool} (h : ∀ x ∈ l, f x = true) : (l.map f).all id = true := by
  rw [List.all_map, List.all_eq_true]
  exact h
theorem ok_chkpr (F : Fun K "check_pairs" "check_pairs" s_check_pairs f fd) (c : Cal P w K mg base CX0 3 "is_pair" ["value", "n"] (Pu K f_ispair)) (zi : mg "isinstance" = none) (zt : mg "tuple" = none) (zl : mg "list" = none) (za : mg "all" = none) :
    FnOk P w K mg base CX0 4 f fd ["n", "pairs"] (Pu K f_chkpr) := by
  refine F.ok sc_check_pairs (pu_len fun ds d ⟨n, ps, pl, e, _⟩ => by rw [e]; rfl) (fun cdv A outer s H vs Q E hr h => ?_)
  obtain ⟨B, ds, d, e, ra, ⟨n, ps, pl, rfl, hrow, hlen, hps, rfl⟩, k⟩ := h
  obtain ⟨v, u, rfl, r1, r2⟩ := rpa2 ra
  refine ⟨_, pss_cons (ps_if (pt_not (pt_val (pe_callB call_isiT (by rfl) zi (by decide +kernel) (pa_cons (pv 1) (pa_cons (pe_tup (pa_cons (pe_bltn (v := .ty "list") (by rfl) zl (by decide +kernel) rfl) (pa_cons (pe_bltn (v := .ty "tuple") (by rfl) zt (by decide +kernel) rfl) pa_nil))) pa_nil))))) (pss_one ps_never) pss_nil)
    (pss_one (ps_if (pt_not (pt_val (pe_callB (cr_all rfl) (by rfl) za (by decide +kernel) (pa_cons (pe_lc (own := [("item", 2)]) (g := gName 2) (tt := tYes) rfl sc_check_pairs.nd (pi_seq (pv 1)) (blkOk_by (N := N_check_pairs) (sc := defScope s_check_pairs) (by decide +kernel))
        (fun _ _ _ _ _ => pg_name (i := 2) sc_check_pairs.nd rfl (Or.inl rfl)) (fun _ _ _ _ _ => pts_nil) (fun _ _ _ _ _ => pe_cal c hr pass0 (pa_cons (pv 2) (pa_cons (pv 0) pa_nil)))) pa_nil)))) (pss_one ps_never) pss_nil)), ?_⟩
  obtain ⟨T, b1, b2, hT, k1, k2, hb⟩ := row_ty hrow
  have hs : Sl K B [some (.int n), some pl, none] [some v, some u, none] := ⟨⟨_, rfl, r1⟩, ⟨_, rfl, r2⟩, trivial, trivial⟩
  refine q_when ((b_not (b_B (g_isiT (g_var rfl) hT k1 k2))).to (b := false) (by rw [hb]; rfl)) hs e (fun h => nomatch h) (fun _ B2 H2 n2 hs => ?_)
  have g1 := g_lc (K := K) (Γ := [some (.int n), some pl, none]) (tt := tYes) (te := tCall (Pu K f_ispair) [] E0 (tCons (tVar 2) (tCons (tVar 0) tNil))) (wi := iSeq K (tVar 1)) (g := gName 2) (vs := [2]) (fun _ => true) (fun p => .bl (isPr n p)) (i_row (g_var rfl) hrow) (by omega)
    (t_name (fun σ x => by simp [wipe]) fun p hp => ⟨b_yes, fun _ => g_call (s_cons (g_var rfl) (s_cons (g_var rfl) s_nil)) ⟨p, n, rfl, (hps p hp).1, rfl⟩⟩)
  have e1 : ((ps.filter fun _ => true).map fun p => Da.bl (isPr n p)) = (ps.map (isPr n)).map Da.bl := by
    rw [List.filter_eq_self.mpr (fun _ _ => rfl), List.map_map]
    rfl
  rw [e1] at g1
  refine z_when ((b_not (b_B (g_cb (s_cons g1 s_nil) c_all))).to (b := false) (by rw [all_tt fun p hp => (hps p hp).2]; rfl)) hs n2.ok (fun h => nomatch h) (fun _ B3 H3 n3 _ => (k.mono (n2.trans n3)).now n3.ok rfl)
theorem tab_rp {B : Hp} (n : Nat) (f : Nat → Nat) : RpA K B (tab n f) ((List.range n).map fun x => V.int (f x : Int)) := by
  unfold tab
  have e1 : ((List.range n).map fun x => Da.int (f x : Int)) = ((List.range n).map fun x => (f x : Int)).map Da.int := by rw [List.map_map]; rfl
  have e2 : ((List.range n).map fun x => V.int (f x : Int)) = ((List.range n).map fun x => (f x : Int)).map V.int := by rw [List.map_map]; rfl
  rw [e1, e2]
  exact .ints _
theorem tab_get {n x : Nat} (f : Nat → Nat) (h : x < n) : (tab n f)[x]? = some (.int (f x : Int)) := get_tab (fun x => Da.int (f x : Int)) h
theorem foldl_take {α β : Type} {l : List α} {i : Nat} {x : α} (f : β → α → β) (b : β) (h : l[i]? = some x) : (l.take (i + 1)).foldl f b = f ((l.take i).foldl f b) x := by
  obtain ⟨hi, e⟩ := List.getElem?_eq_some_iff.mp h
  rw [take_snoc hi, List.foldl_append, e]
  rfl
theorem flat_rep {α : Type} : ∀ (n : Nat) (x : α), (List.replicate n [x]).flatten = List.replicate n x
  | 0, _ => rfl
  | n + 1, x => congrArg (x :: ·) (flat_rep n x)
theorem ok_closed (F : Fun K "closed" "closed" s_closed f fd) (c : Cal P w K mg base CX0 1 "has" ["bits", "x"] (Pu K f_has)) (zr : mg "range" = none) (zt : mg "tuple" = none) :
    FnOk P w K mg base CX0 2 f fd ["n", "pairs"] (Pu K f_closed) := by
  refine F.ok sc_closed (pu_len fun ds d ⟨n, ps, pl, e, _⟩ => by rw [e]; rfl) (fun cdv A outer s H vs Q E hr h => ?_)
  obtain ⟨B, ds, d, e, ra, ⟨n, ps, pl, rfl, hrow, hn, hlen, hin, rfl⟩, k⟩ := h
  obtain ⟨v, u, rfl, r1, r2⟩ := rpa2 ra
  refine ⟨_, pss_cons (ps_set (i := 2) sc_closed.nd rfl (.inl rfl) (pe_op op_rep (pe_lst (pa_cons pe_int pa_nil)) (pv 0)))
    (pss_cons (ps_for PassesOwn.never rfl (pi_seq (pv 1)) (pg_tup rfl (pgs_cons (pg_name (i := 3) sc_closed.nd rfl (.inl rfl)) (pgs_cons (pg_name (i := 4) sc_closed.nd rfl (.inl rfl)) pgs_nil)))
      (pss_one (ps_asg (pe_op op_or (pe_ix ix_list (pv 2) (pv 3) (fun _ _ => rfl)) (pe_op op_shl pe_int (pv 4))) (pg_sub (pv 2) (pv 3) set_list))))
    (pss_cons (ps_for PassesOwn.never rfl (pi_range1 (by rfl) zr (pa_cons (pv 0) pa_nil)) (pg_name (i := 5) sc_closed.nd rfl (.inl rfl))
      (pss_one (ps_for PassesOwn.never rfl (pi_range1 (by rfl) zr (pa_cons (pv 0) pa_nil)) (pg_name (i := 3) sc_closed.nd rfl (.inl rfl))
        (pss_one (ps_if (pt_val (pe_cal c hr pass0 (pa_cons (pe_ix ix_list (pv 2) (pv 3) (fun _ _ => rfl)) (pa_cons (pv 5) pa_nil))))
          (pss_one (ps_asg (pe_op op_or (pe_ix ix_list (pv 2) (pv 3) (fun _ _ => rfl)) (pe_ix ix_list (pv 2) (pv 5) (fun _ _ => rfl))) (pg_sub (pv 2) (pv 3) set_list))) pss_nil)))))
    (pss_one (ps_ret (pe_tupleOf (by rfl) zt (pv 2)))))), ?_⟩
  obtain rfl : v = .int (n : Int) := r1
  -- above = [0] * n
  refine ⟨by show 1 ≤ sizeLine; decide, fun l0 hl0 => ⟨_, rfl, l0, (n : Int), [.int 0], rfl, rfl, upd_same, by omega, by omega, size_ok (by show 1 * (n : Int).toNat ≤ 1000000; omega), fun l hl => ?_⟩⟩
  have e0 : Ex B (upd H l0 (.lst [.int 0])) := e.trans (.new hl0)
  have hlH : H l = none := (Ex.new hl0).s l hl
  have n0 : Nx B H B (upd (upd H l0 (.lst [.int 0])) l (.lst ((List.range n).map fun x => V.int ((0 : Nat) : Int)))) := (Nx.out e hl0).trans (.out e0 hl)
  have er : (List.replicate (n : Int).toNat [V.int 0]).flatten = (List.range n).map fun x => V.int ((0 : Nat) : Int) := by
    rw [Int.toNat_natCast]
    apply List.ext_getElem?
    intro i
    have e1 := flat_rep n (V.int 0)
    rw [e1]
    by_cases hi : i < n
    · simp [hi]
    · rw [List.getElem?_eq_none (by simp; omega), List.getElem?_eq_none (by simp; omega)]
  rw [er]
  have hs0 : Sl K B [some (.int (n : Int)), some pl, none, none, none, none] [some (.int (n : Int)), some u, some (.ref l), none, none, none] := ⟨⟨_, rfl, rfl⟩, ⟨_, rfl, r2⟩, trivial, trivial, trivial, trivial, trivial⟩
  -- for x, y in pairs
  refine q_for (K := K) (i_row (g_var rfl) hrow) hs0 n0.ok (fun i σ' B' H' => ∃ y3 y4, σ' = [some (.int (n : Int)), some u, some (.ref l), y3, y4, none] ∧ Nx B H B' H' ∧ B' l = none ∧
      H' l = some (.lst ((List.range n).map fun x => V.int ((((ps.take i).foldl (fun f p => upF f p.1 (f p.1 ||| 2 ^ p.2)) fun _ => 0) x : Nat) : Int))))
    (fun B1 H1 n1 => ?_) (fun i σ' B' H' ⟨_, _, _, q, _⟩ => q.ok) (fun i d x σ' B' H' B2 H2 hd eb ⟨y3, y4, hσ, nx, hB, hH⟩ n2 rx => ?_) (fun σ' B' H' eb ⟨y3, y4, hσ, nx, hB, hH⟩ => ?_)
  · have m1 := n1.apart (fresh_back e0 hl) upd_same
    exact ⟨none, none, rfl, n0.trans n1, m1.1, m1.2⟩
  · subst hσ
    unfold dPs at hd
    rw [List.getElem?_map] at hd
    obtain ⟨p, hp, rfl⟩ := Option.map_eq_some_iff.mp hd
    have hpm : p ∈ ps := List.mem_of_getElem? hp
    obtain ⟨a, xs, rfl, h3, h4⟩ := rx
    obtain ⟨x1, x2, rfl, q1, q2⟩ := rpa2 h4
    obtain rfl : x1 = .int (p.1 : Int) := q1
    obtain rfl : x2 = .int (p.2 : Int) := q2
    have m2 := n2.apart hB hH
    refine ⟨a, _, rfl, ex_t n2.ok h3, rfl, _, [.int (p.2 : Int)], rfl, _, [], rfl, rfl, ?_⟩
    generalize hf : ((ps.take i).foldl (fun f p => upF f p.1 (f p.1 ||| 2 ^ p.2)) fun _ => 0) = f0 at hH m2
    have hsB : Sl K (upd B2 l (.lst ((List.range n).map fun x => V.int (f0 x : Int)))) [none, none, some (.lst (tab n f0)), some (.int (p.1 : Int)), some (.int (p.2 : Int)), none] [some (.int (n : Int)), some u, some (.ref l), some (.int (p.1 : Int)), some (.int (p.2 : Int)), none] :=
      ⟨trivial, trivial, ⟨_, rfl, l, _, rfl, upd_same, tab_rp n f0⟩, ⟨_, rfl, rfl⟩, ⟨_, rfl, rfl⟩, trivial, trivial⟩
    have hx := (hin p hpm).1
    refine (g_II (f := Builtin.bitOr) (g_ixL (g_var rfl) (g_var rfl) (at_nat (tab_get f0 hx))) (g_IC (i := 1) (j := (p.2 : Int)) g_int (g_var rfl) ?_) : EvG K _ _ _).sc rfl hsB (ex_frz n2.ok m2.2) fun H3 e3 => ?_
    · exact ⟨by omega, by have := (hin p hpm).2; omega, by decide⟩
    refine ⟨_, rfl, _, rfl, l, _, (p.1 : Int), p.1, rfl, rfl, e3 l _ m2.2, ixN_nat (by rw [List.length_map, List.length_range]; exact hx), ?_⟩
    have n3 : Nx B H B2 H3 := (nx.trans n2).trans (.grow n2.ok e3)
    have eo : Builtin.bitOr (f0 p.1 : Int) ((1 : Int) * 2 ^ ((p.2 : Int)).toNat) = ((f0 p.1 ||| 2 ^ p.2 : Nat) : Int) := by
      rw [Int.one_mul, Int.toNat_natCast, ← PySem.W.kbt_cast, bitOr_nat]
    rw [eo, set_tab (fun z : Nat => V.int (z : Int)) f0 (f0 p.1 ||| 2 ^ p.2) hx]
    refine ⟨B2, n2.b, _, _, rfl, n3.mut hlH m2.1 (ml_of (e3 l _ m2.2)), m2.1, ?_⟩
    rw [foldl_take _ _ hp, hf]
    exact upd_same
  · subst hσ
    have el : (dPs ps).length = ps.length := by unfold dPs; rw [List.length_map]
    rw [el, List.take_length] at hH
    have hs1 : Sl K B' [some (.int (n : Int)), none, none, none, none, none] [some (.int (n : Int)), some u, some (.ref l), y3, y4, none] := ⟨⟨_, rfl, rfl⟩, trivial, trivial, trivial, trivial, trivial, trivial⟩
    -- for middle in range(n)
    refine q_for (K := K) (i_rng1 (s_cons (g_var rfl) s_nil) (by omega) (by omega)) hs1 nx.ok (fun i σ' B' H' => ∃ y3 y4 y5, σ' = [some (.int (n : Int)), some u, some (.ref l), y3, y4, y5] ∧ Nx B H B' H' ∧ B' l = none ∧
        H' l = some (.lst ((List.range n).map fun x => V.int ((((List.range i).foldl stepF (initF ps)) x : Nat) : Int))))
      (fun B1 H1 n1 => ?_) (fun i σ' B' H' ⟨_, _, _, _, q, _⟩ => q.ok) (fun i d x σ' B' H' B2 H2 hd eb ⟨y3, y4, y5, hσ, nx, hB, hH⟩ n2 rx => ?_) (fun σ' B' H' eb ⟨y3, y4, y5, hσ, nx, hB, hH⟩ => ?_)
    · have m1 := n1.apart hB hH
      exact ⟨_, _, _, rfl, nx.trans n1, m1.1, m1.2⟩
    · subst hσ
      obtain ⟨hi, rfl⟩ := rng_get hd
      rw [Int.toNat_natCast] at hi
      obtain rfl : x = .int (0 + (i : Int)) := rx
      rw [Int.zero_add]
      have m2 := n2.apart hB hH
      generalize hf : (List.range i).foldl stepF (initF ps) = f0 at hH m2
      have hs2 : Sl K B2 [some (.int (n : Int)), none, none, none, none, some (.int (i : Int))] [some (.int (n : Int)), some u, some (.ref l), y3, y4, some (.int (i : Int))] := ⟨⟨_, rfl, rfl⟩, trivial, trivial, trivial, trivial, ⟨_, rfl, rfl⟩, trivial⟩
      -- for x in range(n)
      refine z_for (K := K) (i_rng1 (s_cons (g_var rfl) s_nil) (by omega) (by omega)) hs2 n2.ok (fun j σ' B' H' => ∃ y3 y4, σ' = [some (.int (n : Int)), some u, some (.ref l), y3, y4, some (.int (i : Int))] ∧ Nx B H B' H' ∧ B' l = none ∧
          H' l = some (.lst ((List.range n).map fun x => V.int ((midF f0 i j x : Nat) : Int))))
        (fun B3 H3 n3 => ?_) (fun i σ' B' H' ⟨_, _, _, q, _⟩ => q.ok) (fun j d x σ' B' H' B4 H4 hd eb ⟨y3, y4, hσ, nx, hB, hH⟩ n4 rx => ?_) (fun σ' B4 H4 eb4 ⟨y3, y4, hσ, nx4, hB4, hH4⟩ => ?_)
      · have m3 := n3.apart m2.1 m2.2
        refine ⟨_, _, rfl, (nx.trans n2).trans n3, m3.1, ?_⟩
        rw [mid_zero]
        exact m3.2
      · subst hσ
        obtain ⟨hj, rfl⟩ := rng_get hd
        rw [Int.toNat_natCast] at hj
        obtain rfl : x = .int (0 + (j : Int)) := rx
        rw [Int.zero_add]
        have m4 := n4.apart hB hH
        have hsB : Sl K (upd B4 l (.lst ((List.range n).map fun x => V.int ((midF f0 i j x : Nat) : Int)))) [none, none, some (.lst (tab n (midF f0 i j))), some (.int (j : Int)), none, some (.int (i : Int))] [some (.int (n : Int)), some u, some (.ref l), some (.int (j : Int)), y4, some (.int (i : Int))] :=
          ⟨trivial, trivial, ⟨_, rfl, l, _, rfl, upd_same, tab_rp n _⟩, ⟨_, rfl, rfl⟩, trivial, ⟨_, rfl, rfl⟩, trivial⟩
        have gj : EvG K [none, none, some (.lst (tab n (midF f0 i j))), some (.int (j : Int)), none, some (.int (i : Int))] (tOp (rIxL K) (tVar 2) (tVar 3)) (.int ((f0 j : Nat) : Int)) := by
          have := tab_get (midF f0 i j) hj
          rw [mid_at] at this
          exact g_ixL (g_var rfl) (g_var rfl) (at_nat this)
        have gi : EvG K [none, none, some (.lst (tab n (midF f0 i j))), some (.int (j : Int)), none, some (.int (i : Int))] (tOp (rIxL K) (tVar 2) (tVar 5)) (.int ((f0 i : Nat) : Int)) := by
          have := tab_get (midF f0 i j) hi
          rw [mid_self] at this
          exact g_ixL (g_var rfl) (g_var rfl) (at_nat this)
        refine (b_B (g_call (s_cons gj (s_cons (g_var rfl) s_nil)) ⟨f0 j, i, rfl, rfl⟩) : EvB K _ _ _).sc hsB (ex_frz n4.ok m4.2) fun H5 e5 => ?_
        have n5 : Nx B H B4 H5 := (nx.trans n4).trans (.grow n4.ok e5)
        cases ht : (f0 j).testBit i with
        | false =>
          rw [if_neg Bool.false_ne_true]
          refine ⟨B4, n4.b, _, _, rfl, n5, m4.1, ?_⟩
          rw [← mid_no ht]
          exact e5 _ _ m4.2
        | true =>
          rw [if_pos rfl]
          refine (g_II (f := Builtin.bitOr) gj gi : EvG K _ _ _).sc rfl hsB (ex_frz n5.ok (e5 _ _ m4.2)) fun H6 e6 => ?_
          refine ⟨_, rfl, _, rfl, l, _, (j : Int), j, rfl, rfl, e6 l _ (e5 l _ m4.2), ixN_nat (by rw [List.length_map, List.length_range]; exact hj), ?_⟩
          have n6 : Nx B H B4 H6 := n5.trans (.grow n5.ok e6)
          rw [bitOr_nat, set_tab (fun z : Nat => V.int (z : Int)) (midF f0 i j) (f0 j ||| f0 i) hj, mid_yes ht]
          exact ⟨B4, n4.b, _, _, rfl, n6.mut hlH m4.1 (ml_of (e6 l _ (e5 l _ m4.2))), m4.1, upd_same⟩
      · subst hσ
        rw [rng_length, Int.toNat_natCast] at hH4
        refine ⟨B4, n2.b.trans eb4, _, _, _, rfl, nx4, hB4, ?_⟩
        rw [closF_step n i, hf, hH4]
        congr 2
        exact tab_congr fun x hx => by rw [mid_end x hx]
    · subst hσ
      rw [rng_length, Int.toNat_natCast] at hH
      have n5 := nx.frz hlH hB hH
      exact q_ret (K := K) (Γ := [none, none, some (.lst (tab n (closF n ps))), none, none, none]) (g_tupL (g_var rfl)) ⟨trivial, trivial, ⟨_, rfl, l, _, rfl, upd_same, tab_rp n _⟩, trivial, trivial, trivial, trivial⟩ n5.ok (k.mono n5)
end

structure OrdC (K : PySem.W.Frag) (C : Addr) : Prop where
  cl : Cls K C
  nN : NoAttr K C "n"
  nA : NoAttr K C "above"
theorem na_ : ¬ (("n" : Str) = "above") := by decide +kernel
theorem an_ : ¬ (("above" : Str) = "n") := by decide +kernel
theorem put2 (a b : V) : putF "above" b (putF "n" a []) = ordN.zip [a, b] := by
  show (if ("n" : Str) = "above" then [(("n" : Str), b)] else (("n" : Str), a) :: putF "above" b []) = [(("n" : Str), a), (("above" : Str), b)]
  rw [if_neg na_]
  all_goals rfl
theorem look_n {α : Type} (a b : α) : (ordN.zip [a, b]).lookup ("n" : Str) = some a := by
  show List.lookup ("n" : Str) [(("n" : Str), a), (("above" : Str), b)] = some a
  rw [List.lookup_cons]
  simp
theorem look_a {α : Type} (a b : α) : (ordN.zip [a, b]).lookup ("above" : Str) = some b := by
  show List.lookup ("above" : Str) [(("n" : Str), a), (("above" : Str), b)] = some b
  rw [List.lookup_cons]
  have e : (("above" : Str) == "n") = false := by decide +kernel
  rw [e]
  simp [List.lookup]
section
variable {P : Program} {w : World} {K : PySem.W.Frag} {mg : Str → Option Value} {base : Heap} {f C : Addr} {fd : FuncData}
theorem any_ff {α : Type} {l : List α} {f : α → Bool} (h : ∀ x ∈ l, f x = false) : (l.map f).any id = false := by
  rw [List.any_map, List.any_eq_false]
  intro x hx
  rw [Function.comp, h x hx]
  decide
theorem ok_init (T : OrdC K C) (F : Fun K "__init__" "Order.__init__" s_Order___init__ f fd) (c1 : Cal P w K mg base CX0 2 "check_size" ["n"] (Pu K f_chksz)) (c2 : Cal P w K mg base CX0 4 "check_pairs" ["n", "pairs"] (Pu K f_chkpr))
    (c3 : Cal P w K mg base CX0 2 "closed" ["n", "pairs"] (Pu K f_closed)) (c4 : Cal P w K mg base CX0 1 "has" ["bits", "x"] (Pu K f_has)) (za : mg "any" = none) (zr : mg "range" = none) :
    FnOk P w K mg base CX0 5 f fd ["self", "n", "pairs"] (PuI K C f_order) := by
  refine F.ok sc_Order___init__ (fun vs H Q E h => ?_) (fun cdv A outer s H vs Q E hr h => ?_)
  · obtain ⟨B, ds, ns, fs, x, dx, ws, rfl, _, _, _, ra, ⟨n, ps, pl, rfl, _⟩, _⟩ := h
    rw [List.length_cons, ra.length]
    rfl
  obtain ⟨B, ds, ns, fs, x, dx, ws, rfl, e, hB, hH, ra, ⟨n, ps, pl, rfl, hrow, hn, hlen, hin, hirr, rfl, rfl⟩, k⟩ := h
  obtain ⟨v, u, rfl, r1, r2⟩ := rpa2 ra
  obtain rfl : v = .int (n : Int) := r1
  refine ⟨_, pss_cons (ps_expr (pe_cal c1 (hr.mono (by decide)) pass0 (pa_cons (pv 1) pa_nil)))
    (pss_cons (ps_expr (pe_cal c2 (hr.mono (by decide)) pass0 (pa_cons (pv 1) (pa_cons (pv 2) pa_nil))))
    (pss_cons (ps_set (i := 3) sc_Order___init__.nd rfl (.inr rfl) (pe_cal c3 (hr.mono (by decide)) pass0 (pa_cons (pv 1) (pa_cons (pv 2) pa_nil))))
    (pss_cons (ps_if (pt_val (pe_callB (cr_any rfl) (by rfl) za (by decide +kernel) (pa_cons (pe_lc (own := [("x", 4)]) (g := gName 4) (tt := tYes) (te := tCall (Pu K f_has) [] E0 (tCons (tOp (rIxT K) (tVar 3) (tVar 4)) (tCons (tVar 4) tNil))) rfl sc_Order___init__.nd (pi_range1 (by rfl) zr (pa_cons (pv 1) pa_nil)) (blkOk_by (N := N_Order___init__) (sc := defScope s_Order___init__) (by decide +kernel))
        (fun _ _ _ _ _ => pg_name (i := 4) sc_Order___init__.nd rfl (Or.inl rfl)) (fun _ _ _ _ _ => pts_nil) (fun _ _ _ _ _ => pe_cal c4 (hr.mono (by decide)) pass0 (pa_cons (pe_ix ix_tup (pv 3) (pv 4) (fun _ _ => rfl)) (pa_cons (pv 4) pa_nil)))) pa_nil))) (pss_one ps_never) pss_nil)
    (pss_cons (ps_fld (pv 0) (pv 1) rfl) (pss_one (ps_fld (pv 0) (pv 3) rfl)))))), ?_⟩
  have hs : Sl K B [none, some (.int (n : Int)), some pl, none, none] [some (.ref x), some (.int (n : Int)), some u, none, none] := ⟨trivial, ⟨_, rfl, rfl⟩, ⟨_, rfl, r2⟩, trivial, trivial, trivial⟩
  refine q_drop (g_call (s_cons (g_var rfl) s_nil) ⟨n, rfl, by omega, by omega, rfl⟩) hs e fun B1 H1 n1 hs => ?_
  refine q_drop (g_call (s_cons (g_var rfl) (s_cons (g_var rfl) s_nil)) ⟨n, dPs ps, pl, rfl, hrow, by unfold dPs; rw [List.length_map]; exact hlen, fun p hp => ?_, rfl⟩) hs n1.ok fun B2 H2 n2 hs => ?_
  · unfold dPs at hp
    obtain ⟨q, hq, rfl⟩ := List.mem_map.mp hp
    exact ⟨seen_dP q, isPr_dP (hin q hq)⟩
  refine q_asg (g_call (s_cons (g_var rfl) (s_cons (g_var rfl) s_nil)) ⟨n, ps, pl, rfl, hrow, by omega, hlen, hin, rfl⟩) hs n2.ok fun v3 B3 H3 n3 r3 hs => ?_
  have g1 := g_lc (K := K) (Γ := [none, some (.int (n : Int)), some pl, some (.tup (tab n (closF n ps))), none]) (tt := tYes) (te := tCall (Pu K f_has) [] E0 (tCons (tOp (rIxT K) (tVar 3) (tVar 4)) (tCons (tVar 4) tNil))) (wi := iRng1 (tCons (tVar 1) tNil)) (g := gName 4) (vs := [4])
    (fun _ => true) (fun d => match d with | .int i => .bl ((closF n ps i.toNat).testBit i.toNat) | _ => .non) (i_rng1 (n := n) (s_cons (g_var rfl) s_nil) (by omega) (by omega)) (by rw [rng_length]; omega)
    (t_name (fun σ x => wipe_back (by decide)) fun d hd => ⟨b_yes, fun _ => by
      obtain ⟨i, hi⟩ := List.mem_iff_getElem?.mp hd
      obtain ⟨hi2, rfl⟩ := rng_get hi
      rw [Int.toNat_natCast] at hi2
      rw [Int.zero_add]
      exact g_call (s_cons (g_ixT (g_var rfl) (g_var rfl) (at_nat (tab_get _ hi2))) (s_cons (g_var rfl) s_nil)) ⟨closF n ps i, i, rfl, by simp⟩⟩)
  have e1 : (((rng 0 ((n : Int)).toNat).filter fun _ => true).map fun d => match d with | .int i => Da.bl ((closF n ps i.toNat).testBit i.toNat) | _ => .non) = ((List.range n).map fun i => (closF n ps i).testBit i).map Da.bl := by
    rw [List.filter_eq_self.mpr (fun _ _ => rfl)]
    unfold rng
    rw [Int.toNat_natCast, List.map_map, List.map_map]
    apply List.map_congr_left
    intro a _
    simp
  rw [e1] at g1
  refine q_when ((b_B (g_cb (s_cons g1 s_nil) c_any)).to (b := false) (any_ff fun i hi => by rw [rep_clos n ps]; exact hirr i (List.mem_range.mp hi))) hs n3.ok (fun h => nomatch h) (fun _ B4 H4 n4 hs => ?_)
  have nn := ((n1.trans n2).trans n3).trans n4
  have m4 := nn.apart hB hH
  refine ⟨_, rfl, _, rfl, x, C, dx, [], rfl, m4.2, T.cl, T.nN, by decide, ?_⟩
  refine ⟨_, rfl, _, rfl, x, C, dx, _, rfl, upd_same, T.cl, T.nA, by show 1 < 1000; decide, ?_⟩
  refine k B4 _ [.int (n : Int), v3] nn.b (ex_mut (ex_mut nn.ok m4.1 (ml_of m4.2)) m4.1 (ml_of upd_same)) m4.1 ((Ex.mut (Ex.mut (del_sub.trans nn.h) delH_same (ml_of m4.2)) delH_same (ml_of upd_same))) nn.nw ?_ ⟨_, _, rfl, rfl, _, _, rfl, Rp.mono n4.b _ _ r3, rfl⟩
  · rw [upd_same, put2]
theorem ok_less (T : OrdC K C) (F : Fun K "less" "Order.less" s_Order_less f fd) (c : Cal P w K mg base CX0 1 "has" ["bits", "x"] (Pu K f_has)) : FnOk P w K mg base CX0 2 f fd ["self", "x", "y"] (Pu K (f_less C)) := by
  refine F.ok sc_Order_less (pu_len fun ds d ⟨n, g, x, y, e, _⟩ => by rw [e]; rfl) (fun cdv A outer s H vs Q E hr h => ?_)
  obtain ⟨B, ds, d, e, ra, ⟨n, g, x, y, rfl, hx, rfl⟩, k⟩ := h
  obtain ⟨v, u, z, rfl, r1, r2, r3⟩ := rpa3 ra
  refine ⟨_, pss_one (ps_ret (pe_cal c hr pass0 (pa_cons (pe_ix ix_tup (pe_fld (pv 0) rfl) (pv 1) (fun _ _ => rfl)) (pa_cons (pv 2) pa_nil)))), ?_⟩
  have hs : Sl K B [some (dOrd C n g), some (.int (x : Int)), some (.int (y : Int))] [some v, some u, some z] := ⟨⟨_, rfl, r1⟩, ⟨_, rfl, r2⟩, ⟨_, rfl, r3⟩, trivial⟩
  exact q_ret (g_call (s_cons (g_ixT (g_fld (g_var rfl) T.cl T.nA (look_a _ _)) (g_var rfl) (at_nat (tab_get g hx))) (s_cons (g_var rfl) s_nil)) ⟨g x, y, rfl, rfl⟩) hs e k
theorem ok_related (T : OrdC K C) (F : Fun K "related" "Order.related" s_Order_related f fd) (c : CalM P w K mg base CX0 2 C "less" ["self", "x", "y"] (Pu K (f_less C))) : FnOk P w K mg base CX0 3 f fd ["self", "x", "y"] (Pu K (f_related C)) := by
  refine F.ok sc_Order_related (pu_len fun ds d ⟨n, g, x, y, e, _⟩ => by rw [e]; rfl) (fun cdv A outer s H vs Q E hr h => ?_)
  obtain ⟨B, ds, d, e, ra, ⟨n, g, x, y, rfl, hx, hy, rfl⟩, k⟩ := h
  obtain ⟨v, u, z, rfl, r1, r2, r3⟩ := rpa3 ra
  refine ⟨_, pss_one (ps_ret (pe_or (pe_cmpR op_eq (pv 1) (pv 2) (nomark _)) (pe_or (pe_calm (pv 0) T.cl c hr pass0 (pa_cons (pv 1) (pa_cons (pv 2) pa_nil))) (pe_one (pe_calm (pv 0) T.cl c hr pass0 (pa_cons (pv 2) (pa_cons (pv 1) pa_nil))))))), ?_⟩
  have hs : Sl K B [some (dOrd C n g), some (.int (x : Int)), some (.int (y : Int))] [some v, some u, some z] := ⟨⟨_, rfl, r1⟩, ⟨_, rfl, r2⟩, ⟨_, rfl, r3⟩, trivial⟩
  refine q_ret ((g_or (g_eqI (g_var rfl) (g_var rfl)) fun _ => g_or (g_meth (g_var rfl) (s_cons (g_var rfl) (s_cons (g_var rfl) s_nil)) (by decide +kernel) ⟨n, g, x, y, rfl, hx, rfl⟩) fun _ => g_meth (g_var rfl) (s_cons (g_var rfl) (s_cons (g_var rfl) s_nil)) (by decide +kernel) ⟨n, g, y, x, rfl, hy, rfl⟩).to ?_) hs e k
  congr 2
  exact decide_eq_decide.mpr (by omega)
theorem mem_size (n b : Nat) : (mem n b).length ≤ n := by
  unfold mem
  have := List.length_filter_le (fun x => b.testBit x) (List.range n)
  rw [List.length_range] at this
  exact this
def nat (d : Da) : Nat := match d with
  | .int i => i.toNat
  | _ => 0
theorem nat_int (x : Nat) : nat (.int (x : Int)) = x := by
  show ((x : Int)).toNat = x
  simp
theorem dNs_mem {l : List Nat} {d : Da} (h : d ∈ dNs l) : ∃ x ∈ l, d = .int (x : Int) := by
  unfold dNs at h
  obtain ⟨x, hx, rfl⟩ := List.mem_map.mp h
  exact ⟨x, hx, rfl⟩
theorem flat_len {α β : Type} {l : List α} {g : α → List β} {m : Nat} (h : ∀ x ∈ l, (g x).length ≤ m) : (l.flatMap g).length ≤ l.length * m := by
  induction l with
  | nil => simp
  | cons a r ih =>
    rw [List.flatMap_cons, List.length_append, List.length_cons, Nat.succ_mul]
    have h1 := h a (by simp)
    have h2 := ih fun x hx => h x (List.mem_cons_of_mem _ hx)
    omega
theorem ok_isch (T : OrdC K C) (F : Fun K "is_chain" "Order.is_chain" s_Order_is_chain f fd) (c1 : Cal P w K mg base CX0 2 "members" ["bits"] (Pu K f_members)) (c2 : CalM P w K mg base CX0 3 C "related" ["self", "x", "y"] (Pu K (f_related C))) (za : mg "all" = none) :
    FnOk P w K mg base CX0 4 f fd ["self", "bits"] (Pu K (f_isch C)) := by
  refine F.ok sc_Order_is_chain (pu_len fun ds d ⟨n, g, b, e, _⟩ => by rw [e]; rfl) (fun cdv A outer s H vs Q E hr h => ?_)
  obtain ⟨B, ds, d, e, ra, ⟨n, g, b, rfl, hn, hb, rfl⟩, k⟩ := h
  obtain ⟨v, u, rfl, r1, r2⟩ := rpa2 ra
  refine ⟨_, pss_cons (ps_set (i := 2) sc_Order_is_chain.nd rfl (.inr rfl) (pe_cal c1 (hr.mono (by decide)) pass0 (pa_cons (pv 1) pa_nil)))
    (pss_one (ps_ret (pe_callB (cr_all rfl) (by rfl) za (by decide +kernel) (pa_cons (pe_lc2 (own := [("x", 3), ("y", 4)]) (vs1 := [4]) (g := gName 3) (g1 := gName 4) (tt := tYes) (tt1 := tYes) (wi1 := iTup K (tVar 2)) rfl sc_Order_is_chain.nd (pi_tup (pv 2)) (blkOk_by (N := N_Order_is_chain) (sc := defScope s_Order_is_chain) (by decide +kernel)) (by decide)
      (fun _ _ _ _ _ => pg_name (i := 3) sc_Order_is_chain.nd rfl (Or.inl rfl)) (fun _ _ _ _ _ => pts_nil) (fun _ _ _ _ _ => pi_tup (pv 2)) (fun _ _ _ _ _ => pg_name (i := 4) sc_Order_is_chain.nd rfl (Or.inl rfl)) (fun _ _ _ _ _ => pts_nil)
      (fun _ _ _ _ _ => pe_calm (pv 0) T.cl c2 hr pass0 (pa_cons (pv 3) (pa_cons (pv 4) pa_nil)))) pa_nil)))), ?_⟩
  have hs : Sl K B [some (dOrd C n g), some (.int (b : Int)), none, none, none] [some v, some u, none, none, none] := ⟨⟨_, rfl, r1⟩, ⟨_, rfl, r2⟩, trivial, trivial, trivial, trivial⟩
  refine q_asg (g_call (s_cons (g_var rfl) s_nil) ⟨b, n, rfl, hb, by omega, rfl⟩) hs e fun v2 B2 H2 n2 rv2 hs => ?_
  have hsz : (dNs (mem n b)).length ≤ n := by unfold dNs; rw [List.length_map]; exact mem_size n b
  have g1 := g_lc2 (K := K) (Γ := [some (dOrd C n g), some (.int (b : Int)), some (.tup (dNs (mem n b))), none, none]) (tt := tYes) (tt1 := tYes) (te := tMeth C "related" (Pu K (f_related C)) [] E0 (tVar 0) (tCons (tVar 3) (tCons (tVar 4) tNil))) (wi := iTup K (tVar 2)) (wi1 := iTup K (tVar 2)) (g := gName 3) (g1 := gName 4) (vs := [3, 4]) (vs1 := [4])
    (fun _ => true) (fun _ => dNs (mem n b)) (fun _ _ => true) (fun x y => .bl (decide (nat x = nat y) || ((g (nat x)).testBit (nat y) || (g (nat y)).testBit (nat x)))) (i_tup (g_var rfl)) (by
      unfold out2
      refine Nat.le_trans (flat_len (m := n) fun x _ => ?_) ?_
      · rw [List.length_map]
        exact Nat.le_trans (List.length_filter_le _ _) hsz
      · have h1 := Nat.le_trans (List.length_filter_le (fun _ => true) (dNs (mem n b))) hsz
        exact Nat.le_trans (Nat.mul_le_mul h1 (Nat.le_refl n)) (Nat.le_trans (Nat.mul_le_mul hn hn) (by decide)))
    (t2_name (fun σ x => wipe_back (by decide)) (fun σ x => wipe_back (by decide)) fun d hd => ⟨b_yes, fun _ => ⟨i_tup (g_var rfl), fun d1 hd1 => ⟨b_yes, fun _ => by
      obtain ⟨x, hx, rfl⟩ := dNs_mem hd
      obtain ⟨y, hy, rfl⟩ := dNs_mem hd1
      exact g_meth (g_var rfl) (s_cons (g_var rfl) (s_cons (g_var rfl) s_nil)) (by decide +kernel) ⟨n, g, x, y, rfl, (mem_lt hx).1, (mem_lt hy).1, by rw [nat_int, nat_int]⟩⟩⟩⟩)
  have e1 : out2 (dNs (mem n b)) (fun _ => true) (fun _ => dNs (mem n b)) (fun _ _ => true) (fun x y => Da.bl (decide (nat x = nat y) || ((g (nat x)).testBit (nat y) || (g (nat y)).testBit (nat x)))) =
      ((mem n b).flatMap fun x => (mem n b).map fun y => decide (x = y) || ((g x).testBit y || (g y).testBit x)).map Da.bl := by
    unfold out2 dNs
    simp only [filter_tt]
    rw [List.flatMap_map, List.map_flatMap]
    congr 1
    funext x
    rw [List.map_map, List.map_map]
    apply List.map_congr_left
    intro y _
    show Da.bl (decide (nat (.int (x : Int)) = nat (.int (y : Int))) || ((g (nat (.int (x : Int)))).testBit (nat (.int (y : Int))) || (g (nat (.int (y : Int)))).testBit (nat (.int (x : Int))))) = _
    rw [nat_int, nat_int]
    rfl
  rw [e1] at g1
  refine q_ret ((g_cb (s_cons g1 s_nil) c_all).to ?_) hs n2.ok (k.mono n2)
  congr 1
  rw [List.all_flatMap]
  congr 1
  funext x
  rw [List.all_map]
  rfl
theorem ok_isanti (T : OrdC K C) (F : Fun K "is_antichain" "Order.is_antichain" s_Order_is_antichain f fd) (c1 : Cal P w K mg base CX0 2 "members" ["bits"] (Pu K f_members)) (za : mg "all" = none) :
    FnOk P w K mg base CX0 3 f fd ["self", "bits"] (Pu K (f_isanti C)) := by
  refine F.ok sc_Order_is_antichain (pu_len fun ds d ⟨n, g, b, e, _⟩ => by rw [e]; rfl) (fun cdv A outer s H vs Q E hr h => ?_)
  obtain ⟨B, ds, d, e, ra, ⟨n, g, b, rfl, hn, hb, rfl⟩, k⟩ := h
  obtain ⟨v, u, rfl, r1, r2⟩ := rpa2 ra
  refine ⟨_, pss_one (ps_ret (pe_callB (cr_all rfl) (by rfl) za (by decide +kernel) (pa_cons (pe_lc (own := [("x", 2)]) (g := gName 2) (tt := tYes) (te := tOp rEq (tOp (rI0 fun i j => .int (Builtin.bitAnd i j)) (tOp (rIxT K) (tFld K (tVar 0) "above") (tVar 2)) (tVar 1)) (tC (.int 0))) rfl sc_Order_is_antichain.nd (pi_tup (pe_cal c1 hr pass0 (pa_cons (pv 1) pa_nil))) (blkOk_by (N := N_Order_is_antichain) (sc := defScope s_Order_is_antichain) (by decide +kernel))
      (fun _ _ _ _ _ => pg_name (i := 2) sc_Order_is_antichain.nd rfl (Or.inl rfl)) (fun _ _ _ _ _ => pts_nil)
      (fun _ _ _ _ _ => pe_cmpR op_eq (pe_op op_and (pe_ix ix_tup (pe_fld (pv 0) rfl) (pv 2) (fun _ _ => rfl)) (pv 1)) pe_int (nomark _))) pa_nil))), ?_⟩
  have hs : Sl K B [some (dOrd C n g), some (.int (b : Int)), none] [some v, some u, none] := ⟨⟨_, rfl, r1⟩, ⟨_, rfl, r2⟩, trivial, trivial⟩
  have g1 := g_lc (K := K) (Γ := [some (dOrd C n g), some (.int (b : Int)), none]) (tt := tYes) (te := tOp rEq (tOp (rI0 fun i j => .int (Builtin.bitAnd i j)) (tOp (rIxT K) (tFld K (tVar 0) "above") (tVar 2)) (tVar 1)) (tC (.int 0))) (wi := iTup K (tCall (Pu K f_members) [] E0 (tCons (tVar 1) tNil))) (g := gName 2) (vs := [2])
    (fun _ => true) (fun d => .bl (g (nat d) &&& b == 0)) (i_tup (g_call (s_cons (g_var rfl) s_nil) ⟨b, n, rfl, hb, by omega, rfl⟩)) (by unfold dNs; rw [List.length_map]; exact Nat.le_trans (mem_size n b) (by omega))
    (t_name (fun σ x => wipe_back (by decide)) fun d hd => ⟨b_yes, fun _ => by
      obtain ⟨x, hx, rfl⟩ := dNs_mem hd
      refine (g_eqI (g_II (f := Builtin.bitAnd) (g_ixT (g_fld (g_var rfl) T.cl T.nA (look_a _ _)) (g_var rfl) (at_nat (tab_get g (mem_lt hx).1))) (g_var rfl)) g_int).to ?_
      rw [bitAnd_nat, nat_int]
      congr 1
      show decide (((g x &&& b : Nat) : Int) = 0) = (g x &&& b == 0)
      rw [Bool.eq_iff_iff]
      simp⟩)
  have e1 : (((dNs (mem n b)).filter fun _ => true).map fun d => Da.bl (g (nat d) &&& b == 0)) = ((mem n b).map fun x => g x &&& b == 0).map Da.bl := by
    unfold dNs
    rw [List.filter_eq_self.mpr (fun _ _ => rfl), List.map_map, List.map_map]
    apply List.map_congr_left
    intro y _
    show Da.bl (g (nat (.int (y : Int))) &&& b == 0) = _
    rw [nat_int]
    rfl
  rw [e1] at g1
  refine q_ret ((g_cb (s_cons g1 s_nil) c_all).to ?_) hs e k
  rw [List.all_map]
  rfl
end

/-! ### the law's own draws: a state of two numbers, changed in its place -/
def St (p : Addr) (H : Hp) : Prop := ∃ s t : Int, H p = some (.lst [.int s, .int t]) ∧ 0 ≤ s ∧ 0 ≤ t
structure Mx (p : Addr) (B H B2 H2 : Hp) : Prop where
  ok : Ex B2 H2
  b : Ex B B2
  h : Ex (delH H p) H2
  nw : ∀ a, B a = none → NC H a → B2 a = none
  st : St p H2
  bp : B2 p = none
theorem Mx.of {p : Addr} {B H B2 H2 : Hp} (n : Nx B H B2 H2) (hB : B p = none) (hS : St p H) : Mx p B H B2 H2 := by
  obtain ⟨s, t, h1, h2, h3⟩ := hS
  have m := n.apart hB h1
  exact ⟨n.ok, n.b, del_sub.trans n.h, n.nw, ⟨s, t, m.2, h2, h3⟩, m.1⟩
theorem st_ml {p : Addr} {H : Hp} (h : St p H) : ML H p := by
  obtain ⟨s, t, h1, _, _⟩ := h
  exact ml_of h1
theorem Mx.trans {p : Addr} {B H B2 H2 B3 H3 : Hp} (m : Mx p B H B2 H2) (n : Mx p B2 H2 B3 H3) : Mx p B H B3 H3 :=
  ⟨n.ok, m.b.trans n.b, (ex_del m.h delH_same (st_ml m.st)).trans n.h, (fun a h1 h2 => by
    by_cases ha : a = p
    · rw [ha]
      exact n.bp
    · exact n.nw a (m.nw a h1 h2) ((h2.del ha).ex m.h)), n.st, n.bp⟩
theorem Mx.nx {p : Addr} {B H B2 H2 B3 H3 : Hp} (m : Mx p B H B2 H2) (n : Nx B2 H2 B3 H3) : Mx p B H B3 H3 := m.trans (.of n m.bp m.st)
theorem Mx.apart {p : Addr} {B H B2 H2 : Hp} (m : Mx p B H B2 H2) {a : Addr} {o : HO} (ha : a ≠ p) (h1 : B a = none) (h2 : H a = some o) (hn : notC o = true := by rfl) : B2 a = none ∧ H2 a = some o := ⟨m.nw a h1 ⟨o, h2, hn⟩, m.h.g a o (by rw [delH_ne ha]; exact h2) (notC_T hn)⟩
theorem Mx.draw {p : Addr} {B H B2 H2 : Hp} (m : Mx p B H B2 H2) {s t : Int} (h1 : 0 ≤ s) (h2 : 0 ≤ t) : Mx p B H B2 (upd H2 p (.lst [.int s, .int t])) :=
  ⟨ex_mut m.ok m.bp (st_ml m.st), m.b, Ex.mut m.h delH_same (st_ml m.st), m.nw, ⟨s, t, upd_same, h1, h2⟩, m.bp⟩
theorem Mx.mut {p : Addr} {B H B2 H2 : Hp} (m : Mx p B H B2 H2) {l : Addr} {o : HO} (hl : H l = none) (hB : B2 l = none) (hp : l ≠ p) (hm : ML H2 l) : Mx p B H B2 (upd H2 l o) :=
  ⟨ex_mut m.ok hB hm, m.b, Ex.mut m.h (by rw [delH_ne hp]; exact hl) hm, m.nw, by
    obtain ⟨s, t, q1, q2, q3⟩ := m.st
    exact ⟨s, t, by rw [upd_ne (Ne.symm hp)]; exact q1, q2, q3⟩, m.bp⟩
theorem Mx.frz {p : Addr} {B H B2 H2 : Hp} (m : Mx p B H B2 H2) {l : Addr} {o : HO} (hl : H l = none) (hB : B2 l = none) (hp : l ≠ p) (hH : H2 l = some o) (hc : notC o = true := by rfl) : Mx p B H (upd B2 l o) H2 :=
  ⟨ex_frz m.ok hH hc, m.b.trans (.new hB), m.h, fun a h1 h2 => by
    have hne : a ≠ l := by
      intro z
      subst z
      exact h2.ne hl
    rw [upd_ne hne]
    exact m.nw a h1 h2, m.st, by rw [upd_ne (Ne.symm hp)]; exact m.bp⟩
theorem Mx.refl {p : Addr} {B H : Hp} (e : Ex B H) (hB : B p = none) (hS : St p H) : Mx p B H B H := .of (.refl e) hB hS
def spState (K : PySem.W.Frag) : Sp := fun vs H Q _ => ∃ (a : Addr) (ns : List Int), vs = [.ref a] ∧ SqL K H a (ns.map V.int) ∧ ∀ p H2, H p = none → Ex H H2 → St p H2 → Q (.ref p) H2
def spTake : Sp := fun vs H Q _ => ∃ (p : Addr) (m s t : Int), vs = [.ref p, .int m] ∧ 0 < m ∧ m < 1073741824 ∧ H p = some (.lst [.int s, .int t]) ∧ 0 ≤ s ∧ 0 ≤ t ∧
  ∀ v s' t' : Int, 0 ≤ v → v < m → 0 ≤ s' → 0 ≤ t' → Q (.int v) (upd H p (.lst [.int s', .int t']))
section
variable {P : Program} {w : World} {K : PySem.W.Frag} {mg : Str → Option Value} {base : Heap} {f C : Addr} {fd : FuncData}
theorem cut_int {ns : List Int} {lo hi : Option Int} {i : Nat} {x : V} (h : (cutV (ns.map V.int) lo hi)[i]? = some x) : ∃ z, x = .int z := by
  have h1 := List.mem_of_getElem? h
  unfold cutV at h1
  obtain ⟨z, _, e⟩ := List.mem_map.mp (List.mem_of_mem_drop (List.mem_of_mem_take h1))
  exact ⟨z, e.symm⟩
end

structure CalI (P : Program) (w : World) (K : PySem.W.Frag) (mg : Str → Option Value) (base : Heap) (CX : CXT) (k : Nat) (x : Str) (C : Addr) (ps : List Str) (sp : Sp) : Prop where
  ex : ∃ f fd, Mk K C f ∧ FnOk P w K mg base CX k f fd ps sp ∧ Binds K fd ps [] ∧ mg x = some (.ref C)
theorem pe_cali {X : Cx} {CX : CXT} {k : Nat} {ps : List Str} {sp : Sp} {E : XK} {x : Str} {p pos : Pos} {e : Expr} {es : List Expr} {t : TA} {C : Addr} (c : CalI X.prog X.w X.K X.mg X.base CX k x C ps sp) (hr : Room (k + 1) X.A) (hx : Passes CX X E) (ha : PA X (e :: es) t) (hg : Gl X x := by rfl)
    (hdb : (x == ("__debug__" : Str)) = false := by decide) (he : starEach (e :: es) X.env = (false, eval e X.env) :: starEach es X.env := by rfl) (hpl : (backTo pos (starEach es X.env)).any (·.1) = false := by rfl) :
    PE X (.Call (.Name x p) (e :: es) [] pos) (tMake C sp [] E t) := by
  obtain ⟨f, fd, M, F, hb, hm⟩ := c.ex
  exact pe_make M F hr hg hm hb .nil hx ha hdb he hpl
def spLaw (K : PySem.W.Frag) : Sp := fun vs H Q _ => ∃ (a : Addr) (ns : List Int), vs = [.ref a] ∧ SqL K H a (ns.map V.int) ∧ ∀ H', Q (.bl true) H'
def near (R : Rel) (x y : Nat) : Bool := R x y || R y x
theorem and_zero {n f b : Nat} (hb : b < 2 ^ n) : (f &&& b == 0) = (mem n b).all fun y => !f.testBit y := by
  rw [Bool.eq_iff_iff, beq_iff_eq, List.all_eq_true]
  constructor
  · intro h y hy
    have ⟨h1, h2⟩ := mem_lt hy
    have h3 : (f &&& b).testBit y = false := by rw [h, Nat.zero_testBit]
    rw [Nat.testBit_and, h2, Bool.and_true] at h3
    rw [h3]
    rfl
  · intro h
    apply Nat.eq_of_testBit_eq
    intro y
    rw [Nat.testBit_and, Nat.zero_testBit]
    cases hy : b.testBit y with
    | false => rw [Bool.and_false]
    | true =>
      have hn : y < n := Nat.lt_of_not_le fun hle => by
        rw [Nat.testBit_lt_two_pow (Nat.lt_of_lt_of_le hb (Nat.pow_le_pow_right (by decide) hle))] at hy
        cases hy
      have := h y (by unfold mem; rw [List.mem_filter, List.mem_range]; exact ⟨hn, hy⟩)
      rw [Bool.and_true]
      simpa using this
theorem anti_eq {n b : Nat} {f : Nat → Nat} {R : Rel} (hf : Rep f R) (hb : b < 2 ^ n) : ((mem n b).all fun x => f x &&& b == 0) = (mem n b).all fun x => (mem n b).all fun y => !near R x y := by
  have e : ((mem n b).all fun x => f x &&& b == 0) = (mem n b).all fun x => (mem n b).all fun y => !R x y := by
    congr 1
    funext x
    rw [and_zero hb]
    congr 1
    funext y
    rw [hf x y]
  rw [e, Bool.eq_iff_iff]
  simp only [List.all_eq_true]
  constructor
  · intro h x hx y hy
    have h1 := h x hx y hy
    have h2 := h y hy x hx
    unfold near
    simp at h1 h2
    simp [h1, h2]
  · intro h x hx y hy
    have h1 := h x hx y hy
    unfold near at h1
    simp at h1
    simp [h1.1]
theorem chain_eq {n b : Nat} {f : Nat → Nat} {R : Rel} (hf : Rep f R) : ((mem n b).all fun x => (mem n b).all fun y => decide (x = y) || ((f x).testBit y || (f y).testBit x)) = (mem n b).all fun x => (mem n b).all fun y => decide (x = y) || near R x y := by
  congr 1
  funext x
  congr 1
  funext y
  rw [hf x y, hf y x]
  rfl
theorem mem_nodup (n b : Nat) : (mem n b).Nodup := by
  unfold mem
  exact List.nodup_range.filter _
theorem no_both {l : List Nat} {R : Rel} (nd : l.Nodup) (h1 : (l.all fun x => l.all fun y => decide (x = y) || near R x y) = true) (h2 : (l.all fun x => l.all fun y => !near R x y) = true) : ¬ 1 < l.length := by
  intro h
  obtain ⟨a, b, r, rfl⟩ : ∃ a b r, l = a :: b :: r := by
    match l, h with
    | a :: b :: r, _ => exact ⟨a, b, r, rfl⟩
  have hab : a ≠ b := fun z => (List.nodup_cons.mp nd).1 (by rw [z]; exact List.mem_cons_self)
  simp only [List.all_eq_true] at h1 h2
  have q1 := h1 a (by simp) b (by simp)
  have q2 := h2 a (by simp) b (by simp)
  simp [hab] at q1
  rw [q1] at q2
  cases q2
section
variable {P : Program} {w : World} {K : PySem.W.Frag} {mg : Str → Option Value} {base : Heap} {f C : Addr} {fd : FuncData}
theorem all_take {α : Type} {l : List α} {i : Nat} {x : α} (g : α → Bool) (h : l[i]? = some x) : (l.take (i + 1)).all g = ((l.take i).all g && g x) := by
  obtain ⟨hi, e⟩ := List.getElem?_eq_some_iff.mp h
  rw [take_snoc hi, List.all_append, e]
  simp
theorem dNs_at {l : List Nat} {i : Nat} {d : Da} (h : (dNs l)[i]? = some d) : ∃ x, l[i]? = some x ∧ d = .int (x : Int) := by
  unfold dNs at h
  rw [List.getElem?_map] at h
  obtain ⟨x, hx, rfl⟩ := Option.map_eq_some_iff.mp h
  exact ⟨x, hx, rfl⟩
theorem dNs_len (l : List Nat) : (dNs l).length = l.length := by unfold dNs; rw [List.length_map]
theorem bit_div {b x : Nat} : decide ((b : Int) / ((2 ^ x : Nat) : Int) % 2 = 1) = b.testBit x := by
  have e : (b : Int) / ((2 ^ x : Nat) : Int) % 2 = ((b / 2 ^ x % 2 : Nat) : Int) := rfl
  rw [e, Nat.testBit_eq_decide_div_mod_eq]
  exact decide_eq_decide.mpr (by omega)
theorem g_bl_no {Γ : List (Option Da)} {te : TE} {b : Bool} (h : EvG K Γ te (.bl b)) : kitB "bool" "bool" = some true := by decide +kernel
end

/-! ### sets of points, what is below, pairs, covers, ends, == -/
def arg0 : Expr → Expr
  | .Call _ (e :: _) _ _ => e
  | e => e
def setOf (l : List Nat) : Nat := l.foldl (fun b x => b ||| 2 ^ x) 0
theorem setOf_snoc (l : List Nat) (x : Nat) : setOf (l ++ [x]) = setOf l ||| 2 ^ x := by
  unfold setOf
  rw [List.foldl_append]
  rfl
theorem setOf_filter (p : Nat → Bool) : ∀ n, setOf ((List.range n).filter p) = bitsOf n p
  | 0 => rfl
  | n + 1 => by
    rw [List.range_succ, List.filter_append, List.filter_cons]
    have ih := setOf_filter p n
    unfold bitsOf
    split
    · rw [List.filter_nil, setOf_snoc, ih]
      have e := Nat.two_pow_add_eq_or_of_lt (bitsOf_lt n p) 1
      rw [Nat.mul_one] at e
      rw [Nat.or_comm, ← e]
      omega
    · rw [List.filter_nil, List.append_nil, ih, Nat.add_zero]
def belF (n : Nat) (f : Nat → Nat) (y : Nat) : Nat := bitsOf n fun x => (f x).testBit y
def pairsF (n : Nat) (f : Nat → Nat) : List (Nat × Nat) := (List.range n).flatMap fun x => (mem n (f x)).map fun y => (x, y)
def Fits (n : Nat) (f : Nat → Nat) : Prop := ∀ x, x < n → f x < 2 ^ n
def f_setof : List Da → Da → Prop := fun ds d => ∃ l pl, ds = [pl] ∧ Row (dNs l) pl ∧ (∀ x ∈ l, x ≤ 100000) ∧ d = .int (setOf l : Int)
def f_turned_sets : List Da → Da → Prop := fun ds d => ∃ n f, ds = [.tup (tab n f)] ∧ n ≤ 500 ∧ d = .tup (tab n (belF n f))
def f_related_pairs : List Da → Da → Prop := fun ds d => ∃ n f, ds = [.tup (tab n f)] ∧ n ≤ 500 ∧ Fits n f ∧ d = .tup (dPs (pairsF n f))
def f_below (C : Addr) : List Da → Da → Prop := fun ds d => ∃ n f, ds = [dOrd C n f] ∧ n ≤ 500 ∧ d = .tup (tab n (belF n f))
def f_pairs (C : Addr) : List Da → Da → Prop := fun ds d => ∃ n f, ds = [dOrd C n f] ∧ n ≤ 500 ∧ Fits n f ∧ d = .tup (dPs (pairsF n f))
def covF (n : Nat) (f : Nat → Nat) : List (Nat × Nat) := (pairsF n f).filter fun p => f p.1 &&& belF n f p.2 == 0
def f_cover_pairs : List Da → Da → Prop := fun ds d => ∃ n f, ds = [.tup (tab n f)] ∧ n ≤ 500 ∧ Fits n f ∧ d = .tup (dPs (covF n f))
def f_covers (C : Addr) : List Da → Da → Prop := fun ds d => ∃ n f, ds = [dOrd C n f] ∧ n ≤ 500 ∧ Fits n f ∧ d = .tup (dPs (covF n f))
def f_minimal (C : Addr) : List Da → Da → Prop := fun ds d => ∃ n f, ds = [dOrd C n f] ∧ n ≤ 500 ∧ d = .int (bitsOf n (fun x => belF n f x == 0) : Int)
def f_maximal (C : Addr) : List Da → Da → Prop := fun ds d => ∃ n f, ds = [dOrd C n f] ∧ n ≤ 500 ∧ d = .int (bitsOf n (fun x => f x == 0) : Int)
def sameO (n : Nat) (f : Nat → Nat) (m : Nat) (g : Nat → Nat) : Bool := decide ((n : Int) = (m : Int)) && PyData.eqv (toP (.tup (tab n f))) (toP (.tup (tab m g)))
def f_eqO (C : Addr) : List Da → Da → Prop := fun ds d => ∃ n f m g, ds = [dOrd C n f, dOrd C m g] ∧ d = .bl (sameO n f m g)
theorem dep_tab (k n : Nat) (f : Nat → Nat) : dep (k + 1) (.tup (tab n f)) = true := by
  show (tab n f).all (dep k) = true
  unfold tab
  rw [List.all_map, List.all_eq_true]
  intro x _
  cases k <;> rfl
theorem sameO_refl {n : Nat} {f g : Nat → Nat} (h : ∀ x, x < n → f x = g x) : sameO n f n g = true := by
  unfold sameO
  have e : tab n f = tab n g := tab_congr fun i hi => by rw [h i hi]
  rw [e, eqv_same (dep_tab 0 n g), decide_eq_true rfl]
  rfl
theorem pairsF_len (n : Nat) (f : Nat → Nat) : (pairsF n f).length ≤ n * n := by
  unfold pairsF
  have := flat_len (l := List.range n) (g := fun x => (mem n (f x)).map fun y => (x, y)) (m := n) fun x _ => by rw [List.length_map]; exact mem_size n (f x)
  rw [List.length_range] at this
  exact this
theorem pairsF_mem {n : Nat} {f : Nat → Nat} {p : Nat × Nat} : p ∈ pairsF n f ↔ p.1 < n ∧ p.2 < n ∧ (f p.1).testBit p.2 = true := by
  unfold pairsF
  rw [List.mem_flatMap]
  constructor
  · rintro ⟨x, hx, hp⟩
    obtain ⟨y, hy, rfl⟩ := List.mem_map.mp hp
    exact ⟨List.mem_range.mp hx, (mem_lt hy).1, (mem_lt hy).2⟩
  · rintro ⟨h1, h2, h3⟩
    refine ⟨p.1, List.mem_range.mpr h1, List.mem_map.mpr ⟨p.2, ?_, rfl⟩⟩
    unfold mem
    rw [List.mem_filter, List.mem_range]
    exact ⟨h2, h3⟩
section
variable {P : Program} {w : World} {K : PySem.W.Frag} {mg : Str → Option Value} {base : Heap} {f C : Addr} {fd : FuncData}
theorem ok_setof (F : Fun K "set_of" "set_of" s_set_of f fd) : FnOk P w K mg base CX0 1 f fd ["points"] (Pu K f_setof) := by
  refine F.ok sc_set_of (pu_len fun ds d ⟨l, pl, e, _⟩ => by rw [e]; rfl) (fun cdv A outer s H vs Q E hr h => ?_)
  obtain ⟨B, ds, d, e, ra, ⟨l, pl, rfl, hrow, hle, rfl⟩, k⟩ := h
  obtain ⟨v, rfl, r1⟩ := rpa1 ra
  refine ⟨_, pss_cons (ps_set (i := 1) sc_set_of.nd rfl (.inl rfl) pe_int)
    (pss_cons (ps_for PassesOwn.never rfl (pi_seq (pv 0)) (pg_name (i := 2) sc_set_of.nd rfl (.inl rfl)) (pss_one (ps_set (i := 1) sc_set_of.nd rfl (.inl rfl) (pe_op op_or (pv 1) (pe_op op_shl pe_int (pv 2))))))
    (pss_one (ps_ret (pv 1)))), ?_⟩
  have hs : Sl K B [some pl, some (.int 0), none] [some v, some (.int 0), none] := ⟨⟨_, rfl, r1⟩, ⟨_, rfl, rfl⟩, trivial, trivial⟩
  refine q_for (K := K) (i_row (g_var rfl) hrow) hs e (fun i σ' B' H' => ∃ y2, σ' = [some v, some (.int (setOf (l.take i) : Int)), y2] ∧ Nx B H B' H')
    (fun B1 H1 n1 => ⟨none, rfl, n1⟩) (fun i σ' B' H' ⟨_, _, q⟩ => q.ok) (fun i d z σ' B' H' B2 H2 hd eb ⟨y2, hσ, nx⟩ n2 rx => ?_) (fun σ' B' H' eb ⟨y2, hσ, nx⟩ => ?_)
  · subst hσ
    obtain ⟨x, hx, rfl⟩ := dNs_at hd
    obtain rfl : z = .int (x : Int) := rx
    have hxl := hle x (List.mem_of_getElem? hx)
    refine z_asg (K := K) (Γ := [none, some (.int (setOf (l.take i) : Int)), some (.int (x : Int))]) (B := B2) (d := .int (setOf (l.take (i + 1)) : Int)) ((g_II (f := Builtin.bitOr) (g_var rfl) (g_IC (f := fun i j => i * 2 ^ j.toNat) g_int (g_var rfl) ⟨by omega, by omega, by decide⟩)).to ?_) ⟨trivial, ⟨_, rfl, rfl⟩, ⟨_, rfl, rfl⟩, trivial⟩ n2.ok fun v3 B3 H3 n3 r3 _ => ?_
    · rw [Int.one_mul, Int.toNat_natCast, ← PySem.W.kbt_cast, bitOr_nat]
      rw [take_snoc (List.getElem?_eq_some_iff.mp hx).1, (List.getElem?_eq_some_iff.mp hx).2, setOf_snoc]
    · obtain rfl : v3 = .int (setOf (l.take (i + 1)) : Int) := r3
      exact ⟨B3, n2.b.trans n3.b, _, rfl, (nx.trans n2).trans n3⟩
  · subst hσ
    rw [dNs_len, List.take_length]
    exact q_ret (K := K) (Γ := [none, some (.int (setOf l : Int)), none]) (g_var rfl) ⟨trivial, ⟨_, rfl, rfl⟩, trivial, trivial⟩ nx.ok (k.mono nx)
theorem dNs_rng (n : Nat) : rng 0 (((n : Int)).toNat) = dNs (List.range n) := by
  unfold rng dNs
  rw [Int.toNat_natCast]
  apply List.map_congr_left
  intro a _
  rw [Int.zero_add]
theorem dNs_filter (p : Nat → Bool) (l : List Nat) : ((dNs l).filter fun d => p (nat d)).map (fun d => d) = dNs (l.filter p) := by
  unfold dNs
  rw [List.map_id', List.filter_map]
  congr 1
theorem dPs_mem {ps : List (Nat × Nat)} {d : Da} (h : d ∈ dPs ps) : ∃ p ∈ ps, d = dP p := by
  unfold dPs at h
  obtain ⟨p, hp, rfl⟩ := List.mem_map.mp h
  exact ⟨p, hp, rfl⟩
def pr (d : Da) : Nat × Nat := match d with
  | .tup [a, b] => (nat a, nat b)
  | _ => (0, 0)
theorem pr_dP (p : Nat × Nat) : pr (dP p) = p := by
  show (nat (.int (p.1 : Int)), nat (.int (p.2 : Int))) = p
  rw [nat_int, nat_int]
theorem dPs_filter (q : Nat × Nat → Bool) (ps : List (Nat × Nat)) : ((dPs ps).filter fun d => q (pr d)).map (fun d => d) = dPs (ps.filter q) := by
  unfold dPs
  rw [List.map_id', List.filter_map]
  congr 1
theorem and_zero_b (a b : Nat) : decide (((a &&& b : Nat) : Int) = 0) = (a &&& b == 0) := by
  rw [Bool.eq_iff_iff]
  simp
end

/-! ### rules over numbers -/
def sets (Γ : Sls) (S : List (Nat × Option Da)) : Sls := S.foldl (fun G p => G.set p.1 p.2) Γ
section
variable {K : PySem.W.Frag} {B0 H0 : Hp} {Γ Γ1 Γ2 : Sls} {M M1 : Mus} {te ta tb : TE} {tt : TT} {tu : TS} {wi : TI} {vs : List Nat} {j i2 : Nat} {ts : TA}
theorem i_rngN {n : Nat} (h : EvS K Γ ts [.int (n : Int)]) (hn : n ≤ 1000) : EvI K Γ (iRng1 ts) (dNs (List.range n)) := by
  have := i_rng1 h (by omega) (by omega)
  have e : rng 0 (((n : Int)).toNat) = dNs (List.range n) := by
    unfold rng dNs
    rw [Int.toNat_natCast]
    apply List.map_congr_left
    intro a _
    rw [Int.zero_add]
  rwa [e] at this
theorem g_lcN {l : List Nat} (p : Nat → Bool) (v : Nat → Da) (hi : EvI K Γ wi (dNs l)) (hl : l.length ≤ 500000) (hw : j ∈ vs) (hb : ∀ x, x ∈ l → EvB K ((wipeG Γ vs).set j (some (.int (x : Int)))) tt (p x) ∧ (p x = true → EvG K ((wipeG Γ vs).set j (some (.int (x : Int)))) te (v x))) :
    EvG K Γ (tLc wi (gName j) tt te vs) (.lst ((l.filter p).map v)) := by
  refine (g_lc (fun d => p (nat d)) (fun d => v (nat d)) hi (by rw [dNs_len]; exact hl) (t_name (fun σ x => wipe_back hw) fun d hd => ?_)).to ?_
  · obtain ⟨x, hx, rfl⟩ := dNs_mem hd
    have := hb x hx
    rw [nat_int]
    exact this
  · congr 1
    unfold dNs
    rw [List.filter_map, List.map_map]
    congr 1
theorem g_lcP {l : List (Nat × Nat)} (p : Nat × Nat → Bool) (v : Nat × Nat → Da) (hi : EvI K Γ wi (dPs l)) (hl : l.length ≤ 500000) (hw : j ∈ vs) (hw2 : i2 ∈ vs) (hb : ∀ x, x ∈ l → EvB K (((wipeG Γ vs).set j (some (.int (x.1 : Int)))).set i2 (some (.int (x.2 : Int)))) tt (p x) ∧ (p x = true → EvG K (((wipeG Γ vs).set j (some (.int (x.1 : Int)))).set i2 (some (.int (x.2 : Int)))) te (v x))) :
    EvG K Γ (tLc wi (gTup K 2 (gCons (gName j) (gCons (gName i2) gNil))) tt te vs) (.lst ((l.filter p).map v)) := by
  refine (g_lc (fun d => p (pr d)) (fun d => v (pr d)) hi (by unfold dPs; rw [List.length_map]; exact hl) (t_pair (fun σ x y => wipe_back2 hw hw2) fun d hd => ?_)).to ?_
  · obtain ⟨x, hx, rfl⟩ := dPs_mem hd
    have := hb x hx
    rw [pr_dP]
    exact ⟨_, _, rfl, this⟩
  · congr 1
    unfold dPs
    rw [List.filter_map, List.map_map]
    congr 1
/-- for x over numbers -/
theorem t_forN {l : List Nat} (hi : EvI K Γ wi (dNs l)) (S : Nat → List (Nat × Option Da)) (N : Nat → Mus) (l0 : le Γ (sets Γ (S 0))) (hN : N 0 = M) (hn : ∀ i, ∀ q ∈ N i, q.1 ≠ j)
    (hb : ∀ (i x : Nat), l[i]? = some x → EvT K B0 H0 ((sets Γ (S i)).set j (some (.int (x : Int)))) (N i) tu (.nx (sets Γ (S (i + 1))) (N (i + 1)))) : EvT K B0 H0 Γ M (tFor wi (gName j) tu) (.nx (sets Γ (S l.length)) (N l.length)) := by
  have h := t_for (tu := tu) hi (fun i => sets Γ (S i)) N l0 hN hn fun i d hd => by
    obtain ⟨x, hx, rfl⟩ := dNs_at hd
    exact hb i x hx
  rwa [dNs_len] at h
theorem t_forP {l : List (Nat × Nat)} (hi : EvI K Γ wi (dPs l)) (S : Nat → List (Nat × Option Da)) (N : Nat → Mus) (l0 : le Γ (sets Γ (S 0))) (hN : N 0 = M) (hn : ∀ i, ∀ q ∈ N i, q.1 ≠ j ∧ q.1 ≠ i2)
    (hb : ∀ (i : Nat) (x : Nat × Nat), l[i]? = some x → EvT K B0 H0 (((sets Γ (S i)).set j (some (.int (x.1 : Int)))).set i2 (some (.int (x.2 : Int)))) (N i) tu (.nx (sets Γ (S (i + 1))) (N (i + 1)))) : EvT K B0 H0 Γ M (tFor wi (gTup K 2 (gCons (gName j) (gCons (gName i2) gNil))) tu) (.nx (sets Γ (S l.length)) (N l.length)) := by
  have h := t_for2 (tu := tu) hi (fun i => sets Γ (S i)) N l0 hN hn fun i d hd => by
    unfold dPs at hd
    rw [List.getElem?_map] at hd
    obtain ⟨x, hx, rfl⟩ := Option.map_eq_some_iff.mp hd
    exact ⟨_, _, rfl, hb i x hx⟩
  rwa [show (dPs l).length = l.length by unfold dPs; rw [List.length_map]] at h
end
theorem kit_self {K : PySem.W.Frag} {C : Addr} : PySem.W.kitOne K (.ref C) (.ref C) = some true := by simp [PySem.W.kitOne]

theorem tab_len (n : Nat) (f : Nat → Nat) : (tab n f).length = n := by
  unfold tab
  rw [List.length_map, List.length_range]
theorem i_rngVN {K : PySem.W.Frag} {Γ : Sls} {te : TE} {n : Nat} (h : EvG K Γ te (.rng 0 (n : Int))) (hn : n ≤ 1000) : EvI K Γ (iRngV te) (dNs (List.range n)) := by
  have := i_rngV h (by omega) (by omega) (by omega) (by omega)
  rwa [Int.sub_zero, dNs_rng] at this
theorem dNs_ints (l : List Nat) : dNs l = (l.map fun x : Nat => (x : Int)).map Da.int := by
  unfold dNs
  rw [List.map_map]
  rfl

section
variable {P : Program} {w : World} {K : PySem.W.Frag} {mg : Str → Option Value} {base : Heap} {f C : Addr} {fd : FuncData}
theorem ok_turned_sets (F : Fun K "turned_sets" "turned_sets" s_turned_sets f fd) (c_set_of : Cal P w K mg base CX0 1 "set_of" ["points"] (Pu K f_setof)) (c_has : Cal P w K mg base CX0 1 "has" ["bits", "x"] (Pu K f_has)) (z_range : mg "range" = none) (z_tuple : mg "tuple" = none) (z_len : mg "len" = none) :
    FnOk P w K mg base CX0 2 f fd ["above"] (Pu K f_turned_sets) := by
  refine F.ok sc_turned_sets (pu_len fun ds d ⟨n, g, e, _⟩ => by rw [e]; rfl) (fun cdv A outer s H vs Q E hr h => ?_)
  obtain ⟨B, ds, d, e, ra, ⟨n, g, rfl, hn, rfl⟩, k⟩ := h
  obtain ⟨v, rfl, r1⟩ := rpa1 ra
  -- slots: 0:above 1:points 2:x 3:y
  refine ⟨_, (pss_cons (ps_set (i := 1) sc_turned_sets.nd rfl (by first | exact .inl rfl | exact .inr rfl) (pe_callTy cr_range1 (by rfl) z_range (by decide +kernel) (pa_cons (pe_callB call_len_seq (by rfl) z_len PySem.boot_len (pa_cons (pv 0) pa_nil)) pa_nil)))
    (pss_one (ps_ret (pe_tupleOf (by rfl) z_tuple (pe_lc (own := [("y", 3)]) (g := gName 3) (tt := tYes) (te := tCall (Pu K f_setof) [] E0 (tCons (tLc (iRngV (tVar 1)) (gName 2) (tB (tCall (Pu K f_has) [] E0 (tCons (tOp (rIxT K) (tVar 0) (tVar 2)) (tCons (tVar 3) tNil)))) (tVar 2) [2]) tNil)) rfl sc_turned_sets.nd (pi_rngV (pv 1)) (blkOk_by (N := N_turned_sets) (sc := defScope s_turned_sets) (by decide +kernel)) (fun _ _ _ _ _ => pg_name (i := 3) sc_turned_sets.nd rfl (by first | exact .inl rfl | exact .inr rfl)) (fun _ _ _ _ _ => pts_nil) (fun _ _ _ _ _ => pe_cal c_set_of (hr.mono (by decide)) pass0 (pa_cons (pe_lc (own := [("x", 2)]) (g := gName 2) (tt := tB (tCall (Pu K f_has) [] E0 (tCons (tOp (rIxT K) (tVar 0) (tVar 2)) (tCons (tVar 3) tNil)))) (te := tVar 2) rfl sc_turned_sets.nd (pi_rngV (pv 1)) (blkOk_by (N := N_turned_sets) (sc := relS (lcScope (kidE (kidS ((defBody s_turned_sets).getD 1 (.Pass ⟨0, 0, 0, 0⟩)) 0) 1)) (defScope s_turned_sets)) (by decide +kernel)) (fun _ _ _ _ _ => pg_name (i := 2) sc_turned_sets.nd rfl (by first | exact .inl rfl | exact .inr rfl)) (fun _ _ _ _ _ => pts_one (pt_val (pe_cal c_has (hr.mono (by decide)) pass0 (pa_cons (pe_ix ix_tup (pv 0) (pv 2) (fun _ _ => rfl)) (pa_cons (pv 3) pa_nil))))) (fun _ _ _ _ _ => pv 2)) pa_nil))))))), ?_⟩
  have hs : Sl K B [some (.tup (tab n g)), none, none, none] [some v, none, none, none] := ⟨⟨_, rfl, r1⟩, trivial, trivial, trivial, trivial⟩
  refine body_of (Γ := [some (.tup (tab n g)), none, none, none]) (d := .tup (tab n (belF n g))) ?_ hs e k
  refine t_seq (t_asg (d := .rng 0 (n : Int)) ((g_cb (s_cons (g_cb (s_cons (g_var rfl) s_nil) c_lenT) s_nil) c_range1).to (by rw [tab_len]))) ?_
  refine t_ret (g_tupL ((g_lcN (l := List.range n) (fun _ => true) (fun y => .int (belF n g y : Int)) (i_rngVN (g_var rfl) (by omega)) (by rw [List.length_range]; omega) (by decide) fun y hy => ⟨b_yes, fun _ => ?_⟩).to (by rw [filter_tt]; rfl)))
  refine g_call (s_cons (g_lcN (l := List.range n) (fun x => (g x).testBit y) (fun x => .int (x : Int)) (i_rngVN (g_var rfl) (by omega)) (by rw [List.length_range]; omega) (by decide) fun x hx => ⟨b_B (g_call (s_cons (g_ixT (g_var rfl) (g_var rfl) (at_nat (tab_get g (List.mem_range.mp hx)))) (s_cons (g_var rfl) s_nil)) ⟨g x, y, rfl, rfl⟩), fun _ => g_var rfl⟩) s_nil) ⟨(List.range n).filter fun x => (g x).testBit y, _, rfl, .inl rfl, fun x hx => ?_, ?_⟩
  · have := List.mem_range.mp ((List.mem_filter.mp hx).1)
    omega
  · rw [setOf_filter]
    rfl
theorem ok_related_pairs (F : Fun K "related_pairs" "related_pairs" s_related_pairs f fd) (c_members : Cal P w K mg base CX0 2 "members" ["bits"] (Pu K f_members)) (z_range : mg "range" = none) (z_tuple : mg "tuple" = none) (z_len : mg "len" = none) :
    FnOk P w K mg base CX0 3 f fd ["above"] (Pu K f_related_pairs) := by
  refine F.ok sc_related_pairs (pu_len fun ds d ⟨n, g, e, _⟩ => by rw [e]; rfl) (fun cdv A outer s H vs Q E hr h => ?_)
  obtain ⟨B, ds, d, e, ra, ⟨n, g, rfl, hn, hfit, rfl⟩, k⟩ := h
  obtain ⟨v, rfl, r1⟩ := rpa1 ra
  -- slots: 0:above 1:x 2:y
  refine ⟨_, (pss_one (ps_ret (pe_tupleOf (by rfl) z_tuple (pe_lc2 (own := [("x", 1), ("y", 2)]) (vs1 := [2]) (g := gName 1) (g1 := gName 2) (tt := tYes) (tt1 := tYes) (wi1 := iTup K (tCall (Pu K f_members) [] E0 (tCons (tOp (rIxT K) (tVar 0) (tVar 1)) tNil))) (te := tTup (tCons (tVar 1) (tCons (tVar 2) tNil))) rfl sc_related_pairs.nd (pi_range1 (by rfl) z_range (pa_cons (pe_callB call_len_seq (by rfl) z_len PySem.boot_len (pa_cons (pv 0) pa_nil)) pa_nil)) (blkOk_by (N := N_related_pairs) (sc := defScope s_related_pairs) (by decide +kernel)) (by decide) (fun _ _ _ _ _ => pg_name (i := 1) sc_related_pairs.nd rfl (by first | exact .inl rfl | exact .inr rfl)) (fun _ _ _ _ _ => pts_nil) (fun _ _ _ _ _ => pi_tup (pe_cal c_members (hr.mono (by decide)) pass0 (pa_cons (pe_ix ix_tup (pv 0) (pv 1) (fun _ _ => rfl)) pa_nil))) (fun _ _ _ _ _ => pg_name (i := 2) sc_related_pairs.nd rfl (by first | exact .inl rfl | exact .inr rfl)) (fun _ _ _ _ _ => pts_nil) (fun _ _ _ _ _ => pe_tup (pa_cons (pv 1) (pa_cons (pv 2) pa_nil))))))), ?_⟩
  have hs : Sl K B [some (.tup (tab n g)), none, none] [some v, none, none] := ⟨⟨_, rfl, r1⟩, trivial, trivial, trivial⟩
  have e1 : out2 (dNs (List.range n)) (fun _ => true) (fun d => dNs (mem n (g (nat d)))) (fun _ _ => true) (fun x y => .tup [x, y]) = dPs (pairsF n g) := by
    unfold out2 dPs pairsF dNs
    simp only [filter_tt]
    rw [List.flatMap_map, List.map_flatMap]
    congr 1
    funext x
    rw [List.map_map, List.map_map]
    show List.map _ (mem n (g (nat (.int (x : Int))))) = _
    rw [nat_int]
    rfl
  have g1 := g_lc2 (K := K) (Γ := [some (.tup (tab n g)), none, none]) (tt := tYes) (tt1 := tYes) (te := tTup (tCons (tVar 1) (tCons (tVar 2) tNil))) (wi := iRng1 (tCons (tCB (rLenQ K) (tCons (tVar 0) tNil)) tNil)) (wi1 := iTup K (tCall (Pu K f_members) [] E0 (tCons (tOp (rIxT K) (tVar 0) (tVar 1)) tNil))) (g := gName 1) (g1 := gName 2) (vs := [1, 2]) (vs1 := [2]) (ds := dNs (List.range n))
    (fun _ => true) (fun d => dNs (mem n (g (nat d)))) (fun _ _ => true) (fun x y => .tup [x, y]) (by rw [← dNs_rng]; exact i_rng1 (s_cons ((g_cb (s_cons (g_var rfl) s_nil) c_lenT).to (by rw [tab_len])) s_nil) (by omega) (by omega)) (by
      rw [e1]
      unfold dPs
      rw [List.length_map]
      exact Nat.le_trans (pairsF_len n g) (Nat.le_trans (Nat.mul_le_mul hn hn) (by decide)))
    (t2_name (fun σ x => wipe_back (by decide)) (fun σ x => wipe_back (by decide)) fun d hd => ⟨b_yes, fun _ => by
      obtain ⟨x, hx, rfl⟩ := dNs_mem hd
      have hx := List.mem_range.mp hx
      refine ⟨i_tup (g_call (s_cons (g_ixT (g_var rfl) (g_var rfl) (at_nat (tab_get g hx))) s_nil) ⟨g x, n, rfl, hfit x hx, by omega, by rw [nat_int]⟩), fun d1 _ => ⟨b_yes, fun _ => g_tup (s_cons (g_var rfl) (s_cons (g_var rfl) s_nil)) (by show 2 ≤ 1000000; decide)⟩⟩⟩)
  rw [e1] at g1
  exact q_ret (g_tupL g1) hs e k
theorem ok_cover_pairs (F : Fun K "cover_pairs" "cover_pairs" s_cover_pairs f fd) (c_turned_sets : Cal P w K mg base CX0 2 "turned_sets" ["above"] (Pu K f_turned_sets)) (c_related_pairs : Cal P w K mg base CX0 3 "related_pairs" ["above"] (Pu K f_related_pairs)) (z_tuple : mg "tuple" = none) :
    FnOk P w K mg base CX0 4 f fd ["above"] (Pu K f_cover_pairs) := by
  refine F.ok sc_cover_pairs (pu_len fun ds d ⟨n, g, e, _⟩ => by rw [e]; rfl) (fun cdv A outer s H vs Q E hr h => ?_)
  obtain ⟨B, ds, d, e, ra, ⟨n, g, rfl, hn, hfit, rfl⟩, k⟩ := h
  obtain ⟨v, rfl, r1⟩ := rpa1 ra
  -- slots: 0:above 1:below 2:x 3:y
  refine ⟨_, (pss_cons (ps_set (i := 1) sc_cover_pairs.nd rfl (by first | exact .inl rfl | exact .inr rfl) (pe_cal c_turned_sets (hr.mono (by decide)) pass0 (pa_cons (pv 0) pa_nil)))
    (pss_one (ps_ret (pe_tupleOf (by rfl) z_tuple (pe_lc (own := [("x", 2), ("y", 3)]) (g := gTup K 2 (gCons (gName 2) (gCons (gName 3) gNil))) (tt := tTest (tOp (rEq) (tOp (rI0 fun i j => .int (Builtin.bitAnd i j)) (tOp (rIxT K) (tVar 0) (tVar 2)) (tOp (rIxT K) (tVar 1) (tVar 3))) (tC (.int 0)))) (te := tTup (tCons (tVar 2) (tCons (tVar 3) tNil))) rfl sc_cover_pairs.nd (pi_tup (pe_cal c_related_pairs (hr.mono (by decide)) pass0 (pa_cons (pv 0) pa_nil))) (blkOk_by (N := N_cover_pairs) (sc := defScope s_cover_pairs) (by decide +kernel)) (fun _ _ _ _ _ => pg_tup (by rfl) (pgs_cons (pg_name (i := 2) sc_cover_pairs.nd rfl (by first | exact .inl rfl | exact .inr rfl)) (pgs_cons (pg_name (i := 3) sc_cover_pairs.nd rfl (by first | exact .inl rfl | exact .inr rfl)) pgs_nil))) (fun _ _ _ _ _ => pts_one (pt_cmpR op_eq (pe_op op_and (pe_ix ix_tup (pv 0) (pv 2) (fun _ _ => rfl)) (pe_ix ix_tup (pv 1) (pv 3) (fun _ _ => rfl))) pe_int (nomark _))) (fun _ _ _ _ _ => pe_tup (pa_cons (pv 2) (pa_cons (pv 3) pa_nil)))))))), ?_⟩
  have hs : Sl K B [some (.tup (tab n g)), none, none, none] [some v, none, none, none] := ⟨⟨_, rfl, r1⟩, trivial, trivial, trivial, trivial⟩
  refine body_of (Γ := [some (.tup (tab n g)), none, none, none]) (d := .tup (dPs (covF n g))) ?_ hs e k
  refine t_seq (t_asg (g_call (s_cons (g_var rfl) s_nil) ⟨n, g, rfl, hn, rfl⟩)) ?_
  refine t_ret (g_tupL ((g_lcP (l := pairsF n g) (fun p => g p.1 &&& belF n g p.2 == 0) dP (i_tup (g_call (s_cons (g_var rfl) s_nil) ⟨n, g, rfl, hn, hfit, rfl⟩)) (Nat.le_trans (pairsF_len n g) (Nat.le_trans (Nat.mul_le_mul hn hn) (by decide))) (by decide) (by decide) fun p hp => ?_).to rfl))
  obtain ⟨h1, h2, _⟩ := pairsF_mem.mp hp
  exact ⟨(b_test (g_eqI (g_II (f := Builtin.bitAnd) (g_ixT (g_var rfl) (g_var rfl) (at_nat (tab_get g h1))) (g_ixT (g_var rfl) (g_var rfl) (at_nat (tab_get _ h2)))) g_int)).to (by rw [bitAnd_nat, and_zero_b]), fun _ => g_tup (s_cons (g_var rfl) (s_cons (g_var rfl) s_nil)) (by show 2 ≤ 1000000; decide)⟩
theorem ok_below (T : OrdC K C) (F : Fun K "below" "Order.below" s_Order_below f fd) (c_turned_sets : Cal P w K mg base CX0 2 "turned_sets" ["above"] (Pu K f_turned_sets)) :
    FnOk P w K mg base CX0 3 f fd ["self"] (Pu K (f_below C)) := by
  refine F.ok sc_Order_below (pu_len fun ds d ⟨n, g, e, _⟩ => by rw [e]; rfl) (fun cdv A outer s H vs Q E hr h => ?_)
  obtain ⟨B, ds, d, e, ra, ⟨n, g, rfl, hn, rfl⟩, k⟩ := h
  obtain ⟨v, rfl, r1⟩ := rpa1 ra
  -- slots: 0:self
  refine ⟨_, (pss_one (ps_ret (pe_cal c_turned_sets (hr.mono (by decide)) pass0 (pa_cons (pe_fld (pv 0) rfl) pa_nil)))), ?_⟩
  have hs : Sl K B [some (dOrd C n g)] [some v] := ⟨⟨_, rfl, r1⟩, trivial⟩
  exact q_ret (g_call (s_cons (g_fld (g_var rfl) T.cl T.nA (look_a _ _)) s_nil) ⟨n, g, rfl, hn, rfl⟩) hs e k
theorem ok_pairs (T : OrdC K C) (F : Fun K "pairs" "Order.pairs" s_Order_pairs f fd) (c_related_pairs : Cal P w K mg base CX0 3 "related_pairs" ["above"] (Pu K f_related_pairs)) :
    FnOk P w K mg base CX0 4 f fd ["self"] (Pu K (f_pairs C)) := by
  refine F.ok sc_Order_pairs (pu_len fun ds d ⟨n, g, e, _⟩ => by rw [e]; rfl) (fun cdv A outer s H vs Q E hr h => ?_)
  obtain ⟨B, ds, d, e, ra, ⟨n, g, rfl, hn, hfit, rfl⟩, k⟩ := h
  obtain ⟨v, rfl, r1⟩ := rpa1 ra
  -- slots: 0:self
  refine ⟨_, (pss_one (ps_ret (pe_cal c_related_pairs (hr.mono (by decide)) pass0 (pa_cons (pe_fld (pv 0) rfl) pa_nil)))), ?_⟩
  have hs : Sl K B [some (dOrd C n g)] [some v] := ⟨⟨_, rfl, r1⟩, trivial⟩
  exact q_ret (g_call (s_cons (g_fld (g_var rfl) T.cl T.nA (look_a _ _)) s_nil) ⟨n, g, rfl, hn, hfit, rfl⟩) hs e k
theorem ok_covers (T : OrdC K C) (F : Fun K "covers" "Order.covers" s_Order_covers f fd) (c_cover_pairs : Cal P w K mg base CX0 4 "cover_pairs" ["above"] (Pu K f_cover_pairs)) :
    FnOk P w K mg base CX0 5 f fd ["self"] (Pu K (f_covers C)) := by
  refine F.ok sc_Order_covers (pu_len fun ds d ⟨n, g, e, _⟩ => by rw [e]; rfl) (fun cdv A outer s H vs Q E hr h => ?_)
  obtain ⟨B, ds, d, e, ra, ⟨n, g, rfl, hn, hfit, rfl⟩, k⟩ := h
  obtain ⟨v, rfl, r1⟩ := rpa1 ra
  -- slots: 0:self
  refine ⟨_, (pss_one (ps_ret (pe_cal c_cover_pairs (hr.mono (by decide)) pass0 (pa_cons (pe_fld (pv 0) rfl) pa_nil)))), ?_⟩
  have hs : Sl K B [some (dOrd C n g)] [some v] := ⟨⟨_, rfl, r1⟩, trivial⟩
  exact q_ret (g_call (s_cons (g_fld (g_var rfl) T.cl T.nA (look_a _ _)) s_nil) ⟨n, g, rfl, hn, hfit, rfl⟩) hs e k
theorem ok_eqO {fe : Addr} (T : OrdC K C) (q : EqC K C fe) (F : Fun K "__eq__" "Order.__eq__" s_Order___eq__ f fd) (zi : mg "isinstance" = none) (gC : mg "Order" = some (.ref C)) (hk : PySem.W.kitOne K (.ref C) (.ref C) = some true) : FnOk P w K mg base CX0 1 f fd ["self", "other"] (Pu K (f_eqO C)) := by
  refine F.ok sc_Order___eq__ (pu_len fun ds d ⟨n, g, m, g2, e, _⟩ => by rw [e]; rfl) (fun cdv A outer s H vs Q E hr h => ?_)
  obtain ⟨B, ds, d, e, ra, ⟨n, g, m, g2, rfl, rfl⟩, k⟩ := h
  obtain ⟨v, u, rfl, r1, r2⟩ := rpa2 ra
  refine ⟨_, pss_one (ps_ret (pe_and (pe_callB call_isi (by rfl) zi (by decide +kernel) (pa_cons (pv 1) (pa_cons (pe_glob (v := .ref C) (by rfl) gC rfl) pa_nil)))
    (pe_and (pe_cmpR op_eq (pe_fld (pv 0) rfl) (pe_fld (pv 1) rfl) (nomark _)) (pe_one (pe_cmpR (op_eqD hr.units) (pe_fld (pv 0) rfl) (pe_fld (pv 1) rfl) (nomark _)))))), ?_⟩
  have hs : Sl K B [some (dOrd C n g), some (dOrd C m g2)] [some v, some u] := ⟨⟨_, rfl, r1⟩, ⟨_, rfl, r2⟩, trivial⟩
  exact q_ret (g_and (g_isiC q T.cl (g_var rfl) hk) fun _ => g_and (g_eqI (g_fld (g_var rfl) T.cl T.nN (look_n _ _)) (g_fld (g_var rfl) T.cl T.nN (look_n _ _))) fun _ => g_eqD (k := 1) (by decide) (g_fld (g_var rfl) T.cl T.nA (look_a _ _)) (g_fld (g_var rfl) T.cl T.nA (look_a _ _)) (dep_tab 0 _ _) (dep_tab 0 _ _)) hs e k
end

def vNs (l : List Nat) : List V := l.map fun x : Nat => V.int (x : Int)
def spShuf (K : PySem.W.Frag) : Sp := fun vs H Q _ => ∃ (B : Hp) (p : Addr) (n : Nat), vs = [.ref p, .int (n : Int)] ∧ Ex B H ∧ B p = none ∧ St p H ∧ n ≤ 1000 ∧
  ∀ (l : List Nat) (v : V) (B2 H2 : Hp), l.Perm (List.range n) → Mx p B H B2 H2 → Rp K B2 (.tup (dNs l)) v → Q v H2
def spDrawn (K : PySem.W.Frag) : Sp := fun vs H Q _ => ∃ (B : Hp) (p : Addr) (most : Nat), vs = [.ref p, .int (most : Int)] ∧ Ex B H ∧ B p = none ∧ St p H ∧ most ≤ 100 ∧
  ∀ (n : Nat) (ps : List (Nat × Nat)) (v : V) (B2 H2 : Hp), n ≤ most → InP n ps → (∃ pos : Nat → Nat, ∀ q ∈ ps, pos q.1 < pos q.2) → ps.length ≤ 10000 → Mx p B H B2 H2 → Rp K B2 (.tup [.int (n : Int), .lst (dPs ps)]) v → Q v H2
section
variable {P : Program} {w : World} {K : PySem.W.Frag} {mg : Str → Option Value} {base : Heap} {f C : Addr} {fd : FuncData}
theorem vNs_get {l : List Nat} {i x : Nat} (h : l[i]? = some x) : (vNs l)[i]? = some (.int (x : Int)) := by
  unfold vNs
  rw [List.getElem?_map, h]
  rfl
theorem dNs_get {l : List Nat} {i x : Nat} (h : l[i]? = some x) : (dNs l)[i]? = some (.int (x : Int)) := by
  unfold dNs
  rw [List.getElem?_map, h]
  rfl
theorem dNs_rp {B : Hp} (l : List Nat) : RpA K B (dNs l) (vNs l) := by
  have e1 : dNs l = (l.map fun x : Nat => (x : Int)).map Da.int := by unfold dNs; rw [List.map_map]; rfl
  have e2 : vNs l = (l.map fun x : Nat => (x : Int)).map V.int := by unfold vNs; rw [List.map_map]; rfl
  rw [e1, e2]
  exact .ints _
theorem rgV_nat (n : Nat) : rgV 0 (n : Int) = vNs (List.range n) := by
  unfold rgV vNs
  rw [show ((n : Int) - 0).toNat = n by omega]
  apply List.map_congr_left
  intro a _
  rw [Int.zero_add]
theorem seq_nat {v : Int} {n : Nat} (h0 : 0 ≤ v) (h1 : v < n) : seqIndex? v n = some v.toNat := by
  unfold seqIndex?
  simp
  omega
theorem erase_perm {α : Type} : ∀ {l : List α} {k : Nat} {x : α}, l[k]? = some x → (x :: l.eraseIdx k).Perm l
  | [], _, _, h => by simp at h
  | a :: l, 0, x, h => by
    cases (Option.some.inj h : a = x)
    exact .refl _
  | a :: l, k + 1, x, h => by
    have ih := erase_perm (l := l) (k := k) (x := x) h
    show (x :: a :: l.eraseIdx k).Perm (a :: l)
    exact (List.Perm.swap a x _).trans (ih.cons a)
theorem erase_map {α β : Type} (g : α → β) : ∀ (l : List α) (k : Nat), (l.map g).eraseIdx k = (l.eraseIdx k).map g
  | [], _ => rfl
  | _ :: _, 0 => rfl
  | a :: l, k + 1 => congrArg (g a :: ·) (erase_map g l k)
end

def f_lclosed : List Da → Da → Prop := fun ds d => ∃ (n : Nat) (ps : List (Nat × Nat)), ds = [.int (n : Int), .lst (dPs ps)] ∧ n ≤ 100 ∧ InP n ps ∧ d = dTab n (clos n ps)
def f_lplace : List Da → Da → Prop := fun ds d => ∃ x : Nat, ds = [.int (x : Int)] ∧ x ≤ 1000 ∧ d = .int ((2 ^ x : Nat) : Int)
section
variable {P : Program} {w : World} {K : PySem.W.Frag} {mg : Str → Option Value} {base : Heap} {f C : Addr} {fd : FuncData}
theorem initR_snoc (ps : List (Nat × Nat)) (p : Nat × Nat) : updR (initR ps) p.1 p.2 true = initR (ps ++ [p]) := by
  funext x z
  unfold updR initR
  by_cases e : x = p.1 ∧ z = p.2
  · rw [if_pos e]
    have : (x, z) = p := by rw [e.1, e.2]
    simp [this]
  · rw [if_neg e]
    have : ¬ (x, z) = p := fun q => e (by rw [← q]; exact ⟨rfl, rfl⟩)
    simp [this]
theorem clos_step (n i : Nat) (R : Rel) : (List.range (i + 1)).foldl stepR R = stepR ((List.range i).foldl stepR R) i := by
  rw [List.range_succ, List.foldl_append]
  rfl
theorem dTab_ix {Γ : List (Option Da)} {ta tb tc : TE} {n x z : Nat} {R : Rel} (ha : EvG K Γ ta (dTab n R)) (hb : EvG K Γ tb (.int (x : Int))) (hc : EvG K Γ tc (.int (z : Int))) (hx : x < n) (hz : z < n) : EvG K Γ (tOp (rIxL K) (tOp (rIxL K) ta tb) tc) (.bl (R x z)) :=
  g_ixL (g_ixL ha hb (at_nat (get_tab (fun x => Da.lst ((List.range n).map fun z => .bl (R x z))) hx))) hc (at_nat (get_tab (fun z => Da.bl (R x z)) hz))
end

/-! ### the law -/
def dueF (n : Nat) (R : Rel) (i : Nat) : List (Nat × Nat) := (List.range i).flatMap fun x => ((List.range n).filter (R x)).map fun y => (x, y)
theorem dueF_snoc (n : Nat) (R : Rel) (i : Nat) : dueF n R (i + 1) = dueF n R i ++ ((List.range n).filter (R i)).map fun y => (i, y) := by
  unfold dueF
  rw [List.range_succ, List.flatMap_append]
  simp
theorem dueF_len (n : Nat) (R : Rel) (i : Nat) : (dueF n R i).length ≤ i * n := by
  unfold dueF
  have := flat_len (l := List.range i) (g := fun x => ((List.range n).filter (R x)).map fun y => (x, y)) (m := n) fun x _ => by
    rw [List.length_map]
    have := List.length_filter_le (R x) (List.range n)
    rwa [List.length_range] at this
  rw [List.length_range] at this
  exact this
theorem dueF_mem {n i : Nat} {R : Rel} {p : Nat × Nat} : p ∈ dueF n R i ↔ p.1 < i ∧ p.2 < n ∧ R p.1 p.2 = true := by
  unfold dueF
  rw [List.mem_flatMap]
  constructor
  · rintro ⟨x, hx, hp⟩
    obtain ⟨y, hy, rfl⟩ := List.mem_map.mp hp
    rw [List.mem_filter] at hy
    exact ⟨List.mem_range.mp hx, List.mem_range.mp hy.1, hy.2⟩
  · rintro ⟨h1, h2, h3⟩
    exact ⟨p.1, List.mem_range.mpr h1, List.mem_map.mpr ⟨p.2, List.mem_filter.mpr ⟨List.mem_range.mpr h2, h3⟩, rfl⟩⟩
theorem pairs_due {n : Nat} {f : Nat → Nat} {R : Rel} (h : Rep f R) : pairsF n f = dueF n R n := by
  unfold pairsF dueF mem
  congr 1
  funext x
  congr 2
  funext y
  exact h x y
def betw (n : Nat) (R : Rel) (p : Nat × Nat) : List Nat := (List.range n).filter fun z => R p.1 z && R z p.2
theorem cov_test {n : Nat} {f : Nat → Nat} {R : Rel} (h : Rep f R) (p : Nat × Nat) : (f p.1 &&& belF n f p.2 == 0) = decide (((betw n R p).length : Int) = 0) := by
  have e : ∀ z, (f p.1 &&& belF n f p.2).testBit z = (decide (z < n) && (R p.1 z && R z p.2)) := fun z => by
    unfold belF
    rw [Nat.testBit_and, bitsOf_test, h, h]
    cases R p.1 z <;> cases R z p.2 <;> simp
  rw [Bool.eq_iff_iff, beq_iff_eq, decide_eq_true_iff]
  constructor
  · intro h0
    have : betw n R p = [] := by
      unfold betw
      rw [List.filter_eq_nil_iff]
      intro z hz hh
      have := e z
      rw [h0, Nat.zero_testBit, hh, decide_eq_true (List.mem_range.mp hz)] at this
      cases this
    rw [this]
    rfl
  · intro h0
    have h1 : betw n R p = [] := List.length_eq_zero_iff.mp (by omega)
    apply Nat.eq_of_testBit_eq
    intro z
    rw [e, Nat.zero_testBit]
    by_cases hz : z < n
    · unfold betw at h1
      rw [List.filter_eq_nil_iff] at h1
      have := h1 z (List.mem_range.mpr hz)
      cases e2 : (R p.1 z && R z p.2) with
      | false => simp
      | true => exact absurd e2 this
    · simp [hz]
def covL (n : Nat) (R : Rel) (l : List (Nat × Nat)) : List (Nat × Nat) := l.filter fun p => decide (((betw n R p).length : Int) = 0)
theorem covers_due {n : Nat} {f : Nat → Nat} {R : Rel} (h : Rep f R) : covF n f = covL n R (dueF n R n) := by
  unfold covF covL
  rw [pairs_due h]
  congr 1
  funext p
  exact cov_test h p
theorem clos_cov {n : Nat} {R : Rel} {pos : Nat → Nat} (hT : Trans R) (hI : In n R) (hU : Up pos R) : clos n (covL n R (dueF n R n)) = R := by
  refine clos_covers hT hI hU (fun p hp => ?_) (fun x y h => ?_)
  · exact (dueF_mem.mp (List.mem_filter.mp hp).1).2.2
  · have hi := hI x y h.1
    refine List.mem_filter.mpr ⟨dueF_mem.mpr ⟨hi.1, hi.2, h.1⟩, ?_⟩
    have : betw n R (x, y) = [] := by
      unfold betw
      rw [List.filter_eq_nil_iff]
      intro z _ hh
      rw [Bool.and_eq_true] at hh
      exact h.2 z hh
    rw [this]
    rfl
theorem rep_congr {n : Nat} {f g : Nat → Nat} {R : Rel} (h : Rep f R) (h2 : Rep g R) : ∀ x, f x = g x := fun x => Nat.eq_of_testBit_eq fun y => by rw [h, h2]
theorem any_map {l : List Nat} {p : Nat → Bool} : (l.map p).any id = l.any p := by
  rw [List.any_map]
  rfl
theorem dep_dPs (ps : List (Nat × Nat)) : dep 2 (.tup (dPs ps)) = true := by
  show (dPs ps).all (dep 1) = true
  unfold dPs
  rw [List.all_map, List.all_eq_true]
  intro p _
  rfl
theorem filter_take {α : Type} {l : List α} {i : Nat} {x : α} (g : α → Bool) (h : l[i]? = some x) : (l.take (i + 1)).filter g = (l.take i).filter g ++ if g x then [x] else [] := by
  rw [take_snoc (List.getElem?_eq_some_iff.mp h).1, (List.getElem?_eq_some_iff.mp h).2, List.filter_append]
  cases e : g x <;> simp [e]

/-! ### sets of points told, turned, parts, renumbered -/
def isSetD (n : Nat) : Da → Bool
  | .int i => decide (0 ≤ i) && decide (i < ((2 ^ n : Nat) : Int))
  | _ => false
theorem bits_le {i n : Nat} : Builtin.Int.intBits (i : Int) ≤ n ↔ i < 2 ^ n := by
  unfold Builtin.Int.intBits
  by_cases h : i = 0
  · subst h
    rw [if_pos (by rfl)]
    exact ⟨fun _ => Nat.two_pow_pos n, fun _ => Nat.zero_le _⟩
  · rw [if_neg (fun z => h (by have := beq_iff_eq.mp z; omega)), Int.natAbs_natCast]
    rw [← Nat.log2_lt h]
    omega
def f_isset : List Da → Da → Prop := fun ds d => ∃ x T, ∃ n : Nat, ds = [x, .int (n : Int)] ∧ tyD x = some T ∧ d = .bl (isSetD n x)
def isPtN (n : Nat) (d : Da) : Bool := isPt (n : Int) d
def f_isren : List Da → Da → Prop := fun ds d => ∃ x, ∃ n : Nat, ds = [x, .int (n : Int)] ∧ n ≤ 1000 ∧
  ((∃ l : List Nat, x = .tup (dNs l) ∧ l.Perm (List.range n) ∧ d = .bl true) ∨ (∃ l : List Nat, x = .tup (dNs l) ∧ (∀ y ∈ l, y < n) ∧ l.length ≤ 2000 ∧ l.length ≠ n ∧ d = .bl false) ∨
    (∃ T, tyD x = some T ∧ daTup x = false ∧ d = .bl false) ∨ (∃ es, x = .tup es ∧ (∀ e ∈ es, ∃ T, tyD e = some T) ∧ es.length ≤ 2000 ∧ es.all (isPt (n : Int)) = false ∧ d = .bl false))
def swp (ps : List (Nat × Nat)) : List (Nat × Nat) := ps.map fun p => (p.2, p.1)
def relP (pts : List Nat) (g : Nat → Nat) : Rel := fun x y => (g (pts.getD x 0)).testBit (pts.getD y 0)
def renP (l : List Nat) (ps : List (Nat × Nat)) : List (Nat × Nat) := ps.map fun p => (l.getD p.1 0, l.getD p.2 0)
def f_turned (C : Addr) : List Da → Da → Prop := fun ds d => ∃ n g, ds = [dOrd C n g] ∧ n ≤ 10 ∧ Fits n g ∧ (∀ x, x < n → clos n (swp (pairsF n g)) x x = false) ∧ d = dOrd C n (closF n (swp (pairsF n g)))
def f_part (C : Addr) : List Da → Da → Prop := fun ds d => ∃ n g, ∃ b m : Nat, ds = [dOrd C n g, .int (b : Int)] ∧ n ≤ 10 ∧ Fits n g ∧ b < 2 ^ n ∧ m = (mem n b).length ∧ (∀ x, x < m → clos m (dueF m (relP (mem n b) g) m) x x = false) ∧
  d = dOrd C m (closF m (dueF m (relP (mem n b) g) m))
def b_part (C : Addr) (CM : Addr) : List Da → Value → Prop := fun ds cls => ∃ n g x T, ds = [dOrd C n g, x] ∧ tyD x = some T ∧ isSetD n x = false ∧ cls = .ref CM
def f_renum (C : Addr) : List Da → Da → Prop := fun ds d => ∃ n g, ∃ l : List Nat, ds = [dOrd C n g, .tup (dNs l)] ∧ n ≤ 10 ∧ Fits n g ∧ l.Perm (List.range n) ∧ (∀ x, x < n → clos n (renP l (pairsF n g)) x x = false) ∧
  d = dOrd C n (closF n (renP l (pairsF n g)))
def b_renum (C : Addr) (CM : Addr) : List Da → Value → Prop := fun ds cls => ∃ n g x, ds = [dOrd C n g, x] ∧ f_isren [x, .int (n : Int)] (.bl false) ∧ cls = .ref CM
theorem dep_lNs (l : List Nat) : dep 1 (.lst (dNs l)) = true := by
  show (dNs l).all (dep 0) = true
  unfold dNs
  rw [List.all_map, List.all_eq_true]
  intro p _
  rfl
theorem toPs_len (l : List Da) : (toPs l).length = l.length := by
  induction l with
  | nil => rfl
  | cons d l ih => rw [toPs, List.length_cons, List.length_cons, ih]
theorem eqvAll_len : ∀ {xs ys : List PyData}, PyData.eqvAll xs ys = true → xs.length = ys.length
  | [], [], _ => rfl
  | [], _ :: _, h => by simp [PyData.eqvAll] at h
  | _ :: _, [], h => by simp [PyData.eqvAll] at h
  | x :: xs, y :: ys, h => by
    rw [PyData.eqvAll, Bool.and_eq_true] at h
    rw [List.length_cons, List.length_cons, eqvAll_len h.2]
theorem range_sorted (n : Nat) : ((List.range n).map fun x : Nat => (x : Int)).Pairwise (· ≤ ·) := by
  rw [List.pairwise_map]
  exact List.pairwise_lt_range.imp fun h => by omega
theorem perm_get {n : Nat} {l : List Nat} (h : l.Perm (List.range n)) {x : Nat} (hx : x < n) : l.getD x 0 < n ∧ (dNs l)[x]? = some (.int (l.getD x 0 : Nat)) := by
  have hl : x < l.length := by rw [h.length_eq, List.length_range]; exact hx
  have e : l[x]? = some (l.getD x 0) := by
    rw [List.getD_eq_getElem?_getD, List.getElem?_eq_getElem hl]
    rfl
  exact ⟨List.mem_range.mp (h.mem_iff.mp (List.mem_of_getElem? e)), by unfold dNs; rw [List.getElem?_map, e]; rfl⟩
section
variable {P : Program} {w : World} {K : PySem.W.Frag} {mg : Str → Option Value} {base : Heap} {f C CM : Addr} {fd : FuncData}
theorem ok_isset (F : Fun K "is_set" "is_set" s_is_set f fd) (c : Cal P w K mg base CX0 1 "is_integer" ["value"] (Pu K f_isint)) : FnOk P w K mg base CX0 2 f fd ["value", "n"] (Pu K f_isset) := by
  refine F.ok sc_is_set (pu_len fun ds d ⟨x, T, n, e, _⟩ => by rw [e]; rfl) (fun cdv A outer s H vs Q E hr h => ?_)
  obtain ⟨B, ds, d, e, ra, ⟨x, T, n, rfl, hT, rfl⟩, k⟩ := h
  obtain ⟨v, u, rfl, r1, r2⟩ := rpa2 ra
  refine ⟨_, pss_one (ps_ret (pe_and (pe_cal c hr pass0 (pa_cons (pv 0) pa_nil)) (pe_and (pe_cmpR op_ge (pv 0) pe_int (nomark _)) (pe_one (pe_cmpR op_le (pe_bits (pv 0)) (pv 1) (nomark _)))))), ?_⟩
  refine body_of (K := K) (Γ := [some x, some (.int (n : Int))]) (t_ret ((g_and (b := isSetD n x) (g_call (s_cons (g_var rfl) s_nil) ⟨x, T, rfl, hT, rfl⟩) fun hi => ?_).to ?_)) ⟨⟨_, rfl, r1⟩, ⟨_, rfl, r2⟩, trivial⟩ e k
  · obtain ⟨i, rfl⟩ := int_of hi
    refine (g_and (b := decide (i < ((2 ^ n : Nat) : Int))) (g_IB (g_var rfl) g_int) fun h0 => (g_IB (g_bits (g_var rfl)) (g_var rfl)).to ?_).to rfl
    have h0 := of_decide_eq_true h0
    obtain ⟨j, rfl⟩ := Int.eq_ofNat_of_zero_le h0
    congr 1
    refine decide_eq_decide.mpr ?_
    have := bits_le (i := j) (n := n)
    omega
  · cases x <;> simp [daInt, isSetD]
end

/-! ### what raises: the checks, the constructor -/
def g_chksz : List Da → Ra → Prop := fun ds b => ∃ x T, ds = [x] ∧ tyD x = some T ∧ ((b = .mal ∧ (daInt x = false ∨ ∃ i : Int, x = .int i ∧ i < 0)) ∨ ∃ i : Int, x = .int i ∧ 10 < i ∧ b = .ref "large")
def g_chkpr : List Da → Ra → Prop := fun ds b => ∃ n x, ds = [.int n, x] ∧ b = .mal ∧ ((∃ T, tyD x = some T ∧ daLst x = false ∧ daTup x = false) ∨ ∃ ps, Row ps x ∧ ps.length ≤ 100000 ∧ (∀ p ∈ ps, seen p) ∧ ps.all (isPr n) = false)
def g_order : List Da → Ra → Prop := fun ds b => ∃ x pl, ds = [x, pl] ∧ (g_chksz [x] b ∨ (∃ n : Nat, x = .int (n : Int) ∧ n ≤ 10 ∧ g_chkpr [x, pl] b) ∨ ∃ (n : Nat) (ps : List (Nat × Nat)), x = .int (n : Int) ∧ n ≤ 10 ∧ Row (dPs ps) pl ∧ ps.length ≤ 100000 ∧ InP n ps ∧ (∃ y, y < n ∧ clos n ps y y = true) ∧ b = .ref "cycle")
section
variable {P : Program} {w : World} {K : PySem.W.Frag} {mg : Str → Option Value} {base : Heap} {f C CM CR : Addr} {fd : FuncData}
theorem ok_refini (F : Fun K "__init__" "Refused.__init__" s_Refused___init__ f fd) (x : OexC K CR) (no : PySem.W.findIn K (.ref CR) "reason" = some none) : FnOk P w K mg base CX0 1 f fd ["self", "reason"] (spRef K CR) := by
  refine F.ok sc_Refused___init__ (fun vs H Q E h => ?_) (fun cdv A outer s H vs Q E hr h => ?_)
  · obtain ⟨a, v, rfl, _⟩ := h
    rfl
  obtain ⟨a, v, rfl, ha, k⟩ := h
  exact ⟨_, pss_one (ps_ost (pv 0) (pv 1)), v, rfl, .ref a, rfl, a, CR, rfl, x, no, .inl ⟨ha, fun dx h1 h2 => k dx h1 h2⟩⟩
theorem ok_chkszR (TM : MalC K mg "Malformed" CM) (TR : RefC P w K mg base CR) (F : Fun K "check_size" "check_size" s_check_size f fd) (c : Cal P w K mg base CX0 1 "is_integer" ["value"] (Pu K f_isint)) {t : Tok} (zm : mg "MOST_POINTS" = some (.int 10 t)) : FnOk P w K mg base (L2.CX P w) 3 f fd ["n"] (PuR K CM CR f_chksz g_chksz) := by
  refine okX F sc_check_size (fun vs H Q E h => ?_) (fun cdv A outer s H vs Q E hr h => ?_)
  · obtain ⟨B, ds, e, ra, h⟩ := h
    rw [ra.length]
    rcases h with ⟨d, ⟨n, rfl, _⟩, _⟩ | ⟨b, ⟨x, T, rfl, _⟩, _⟩ <;> rfl
  obtain ⟨B, ds, e, ra, h⟩ := h
  refine ⟨_, pss_cons (ps_if (pw_or (pt_not (pt_val (pe_cal c (hr.mono (by decide)) pass0 (pa_cons (pv 0) pa_nil)))) (pw_or1 (pt_cmpR op_lt (pv 0) pe_int (nomark _)))).pt (pss_one (raise_m TM rfl (takes_of rfl rfl rfl rfl))) pss_nil)
    (pss_one (ps_if (pt_cmpR op_gt (pv 0) (pe_glob (v := .int 10) (by rfl) zm ⟨_, rfl⟩) (nomark _)) (pss_one (raise_r TR rfl hr (takes_of rfl rfl rfl rfl))) pss_nil)), ?_⟩
  rcases h with ⟨d, ⟨n, rfl, h0, h1, rfl⟩, k⟩ | ⟨b, ⟨x, T, rfl, hT, hb⟩, k⟩
  · obtain ⟨v, rfl, r1⟩ := rpa1 ra
    have hs : Sl K B [some (.int n)] [some v] := ⟨⟨_, rfl, r1⟩, trivial⟩
    refine q_when ((b_or (b_not (b_B (g_call (s_cons (g_var rfl) s_nil) ⟨_, _, rfl, rfl, rfl⟩))) (fun _ => b_test (g_IB (g_var rfl) g_int))).to (b := false) ?_) hs e (fun h => nomatch h) (fun _ B2 H2 n2 hs => ?_)
    · show (!true || decide (n < 0)) = false
      rw [decide_eq_false (by omega)]
      rfl
    · refine z_when ((b_test (g_IB (g_var rfl) g_int)).to (b := false) (decide_eq_false (by omega))) hs n2.ok (fun h => nomatch h) (fun _ B3 H3 n3 _ => (k.mono (n2.trans n3)).now n3.ok rfl)
  · obtain ⟨v, rfl, r1⟩ := rpa1 ra
    have hs : Sl K B [some x] [some v] := ⟨⟨_, rfl, r1⟩, trivial⟩
    rcases hb with ⟨rfl, hi | ⟨i, rfl, hi⟩⟩ | ⟨i, rfl, hi, rfl⟩
    · exact q_if ((b_or (b := false) (b_not (b_B (g_call (s_cons (g_var rfl) s_nil) ⟨x, T, rfl, hT, rfl⟩))) (fun h => by rw [hi] at h; cases h)).to (b := true) (by rw [hi]; rfl)) hs e (fun _ B2 H2 n2 _ => k H2 n2.h) (fun h => nomatch h)
    · exact q_if ((b_or (b_not (b_B (g_call (s_cons (g_var rfl) s_nil) ⟨_, _, rfl, hT, rfl⟩))) (fun _ => b_test (g_IB (g_var rfl) g_int))).to (b := true) (by rw [decide_eq_true hi, Bool.or_true])) hs e (fun _ B2 H2 n2 _ => k H2 n2.h) (fun h => nomatch h)
    · refine q_when ((b_or (b_not (b_B (g_call (s_cons (g_var rfl) s_nil) ⟨_, _, rfl, hT, rfl⟩))) (fun _ => b_test (g_IB (g_var rfl) g_int))).to (b := false) ?_) hs e (fun h => nomatch h) (fun _ B2 H2 n2 hs => ?_)
      · show (!true || decide (i < 0)) = false
        rw [decide_eq_false (by omega)]
        rfl
      · exact z_if ((b_test (g_IB (g_var rfl) g_int)).to (b := true) (decide_eq_true hi)) hs n2.ok (fun _ B3 H3 n3 _ => ref_made (k.mono (n2.trans n3).h)) (fun h => nomatch h)
theorem ok_chkprR (TM : MalC K mg "Malformed" CM) (F : Fun K "check_pairs" "check_pairs" s_check_pairs f fd) (c : Cal P w K mg base CX0 3 "is_pair" ["value", "n"] (Pu K f_ispair)) (zi : mg "isinstance" = none) (zt : mg "tuple" = none) (zl : mg "list" = none) (za : mg "all" = none) :
    FnOk P w K mg base (L2.CX P w) 4 f fd ["n", "pairs"] (PuR K CM CR f_chkpr g_chkpr) := by
  refine okX F sc_check_pairs (fun vs H Q E h => ?_) (fun cdv A outer s H vs Q E hr h => ?_)
  · obtain ⟨B, ds, e, ra, h⟩ := h
    rw [ra.length]
    rcases h with ⟨d, ⟨n, ps, pl, rfl, _⟩, _⟩ | ⟨b, ⟨n, x, rfl, _⟩, _⟩ <;> rfl
  obtain ⟨B, ds, e, ra, h⟩ := h
  refine ⟨_, pss_cons (ps_if (pt_not (pt_val (pe_callB call_isiT (by rfl) zi (by decide +kernel) (pa_cons (pv 1) (pa_cons (pe_tup (pa_cons (pe_bltn (v := .ty "list") (by rfl) zl (by decide +kernel) rfl) (pa_cons (pe_bltn (v := .ty "tuple") (by rfl) zt (by decide +kernel) rfl) pa_nil))) pa_nil))))) (pss_one (raise_m TM rfl (takes_of rfl rfl rfl rfl))) pss_nil)
    (pss_one (ps_if (pt_not (pt_val (pe_callB (cr_all rfl) (by rfl) za (by decide +kernel) (pa_cons (pe_lc (own := [("item", 2)]) (g := gName 2) (tt := tYes) (te := tCall (Pu K f_ispair) [] E0 (tCons (tVar 2) (tCons (tVar 0) tNil))) rfl sc_check_pairs.nd (pi_seq (pv 1)) (blkOk_by (N := N_check_pairs) (sc := defScope s_check_pairs) (by decide +kernel))
        (fun _ _ _ _ _ => pg_name (i := 2) sc_check_pairs.nd rfl (Or.inl rfl)) (fun _ _ _ _ _ => pts_nil) (fun _ _ _ _ _ => pe_cal c hr pass0 (pa_cons (pv 2) (pa_cons (pv 0) pa_nil)))) pa_nil)))) (pss_one (raise_m TM rfl (takes_of rfl rfl rfl rfl))) pss_nil)), ?_⟩
  have gall : ∀ (n : Int) (pl : Da) (ps : List Da), Row ps pl → ps.length ≤ 100000 → (∀ p ∈ ps, seen p) → EvG K [some (.int n), some pl, none] (tCB (rAll K) (tCons (tLc (iSeq K (tVar 1)) (gName 2) tYes (tCall (Pu K f_ispair) [] E0 (tCons (tVar 2) (tCons (tVar 0) tNil))) [2]) tNil)) (.bl (ps.all (isPr n))) := fun n pl ps hrow hlen hps => by
    have g1 := g_lc (K := K) (Γ := [some (.int n), some pl, none]) (tt := tYes) (te := tCall (Pu K f_ispair) [] E0 (tCons (tVar 2) (tCons (tVar 0) tNil))) (wi := iSeq K (tVar 1)) (g := gName 2) (vs := [2]) (fun _ => true) (fun p => .bl (isPr n p)) (i_row (g_var rfl) hrow) (by omega)
      (t_name (fun σ x => wipe_back (by decide)) fun p hp => ⟨b_yes, fun _ => g_call (s_cons (g_var rfl) (s_cons (g_var rfl) s_nil)) ⟨p, n, rfl, hps p hp, rfl⟩⟩)
    have e1 : ((ps.filter fun _ => true).map fun p => Da.bl (isPr n p)) = (ps.map (isPr n)).map Da.bl := by
      rw [filter_tt, List.map_map]
      rfl
    rw [e1] at g1
    have := g_cb (s_cons g1 s_nil) c_all
    rw [List.all_map] at this
    exact this
  rcases h with ⟨d, ⟨n, ps, pl, rfl, hrow, hlen, hps, rfl⟩, k⟩ | ⟨b, ⟨n, x, rfl, rfl, hb⟩, k⟩
  · obtain ⟨v, u, rfl, r1, r2⟩ := rpa2 ra
    obtain ⟨T, b1, b2, hT, k1, k2, hb⟩ := row_ty hrow
    have hs : Sl K B [some (.int n), some pl, none] [some v, some u, none] := ⟨⟨_, rfl, r1⟩, ⟨_, rfl, r2⟩, trivial, trivial⟩
    refine q_when ((b_not (b_B (g_isiT (g_var rfl) hT k1 k2))).to (b := false) (by rw [hb]; rfl)) hs e (fun h => nomatch h) (fun _ B2 H2 n2 hs => ?_)
    refine z_when ((b_not (b_B (gall n pl ps hrow hlen fun p hp => (hps p hp).1))).to (b := false) (by rw [List.all_eq_true.mpr fun p hp => (hps p hp).2]; rfl)) hs n2.ok (fun h => nomatch h) (fun _ B3 H3 n3 _ => (k.mono (n2.trans n3)).now n3.ok rfl)
  · obtain ⟨v, u, rfl, r1, r2⟩ := rpa2 ra
    have hs : Sl K B [some (.int n), some x, none] [some v, some u, none] := ⟨⟨_, rfl, r1⟩, ⟨_, rfl, r2⟩, trivial, trivial⟩
    rcases hb with ⟨T, hT, h1, h2⟩ | ⟨ps, hrow, hlen, hseen, hf⟩
    · exact q_if ((b_not (b_B (g_isiT (g_var rfl) hT (kit_list hT) (kit_tuple hT)))).to (b := true) (by rw [h1, h2]; rfl)) hs e (fun _ B2 H2 n2 _ => k H2 n2.h) (fun h => nomatch h)
    · obtain ⟨T, b1, b2, hT, k1, k2, hb⟩ := row_ty hrow
      refine q_when ((b_not (b_B (g_isiT (g_var rfl) hT k1 k2))).to (b := false) (by rw [hb]; rfl)) hs e (fun h => nomatch h) (fun _ B2 H2 n2 hs => ?_)
      exact z_if ((b_not (b_B (gall n x ps hrow hlen hseen))).to (b := true) (by rw [hf]; rfl)) hs n2.ok (fun _ B3 H3 n3 _ => k H3 (n2.trans n3).h) (fun h => nomatch h)
end

section
variable {P : Program} {w : World} {K : PySem.W.Frag} {mg : Str → Option Value} {base : Heap} {f C CM CR : Addr} {fd : FuncData}
theorem ok_initR (T : OrdC K C) (TR : RefC P w K mg base CR) (F : Fun K "__init__" "Order.__init__" s_Order___init__ f fd) (c1 : Cal P w K mg base (L2.CX P w) 3 "check_size" ["n"] (PuR K CM CR f_chksz g_chksz)) (c2 : Cal P w K mg base (L2.CX P w) 4 "check_pairs" ["n", "pairs"] (PuR K CM CR f_chkpr g_chkpr))
    (c3 : Cal P w K mg base CX0 2 "closed" ["n", "pairs"] (Pu K f_closed)) (c4 : Cal P w K mg base CX0 1 "has" ["bits", "x"] (Pu K f_has)) (za : mg "any" = none) (zr : mg "range" = none) :
    FnOk P w K mg base (L2.CX P w) 5 f fd ["self", "n", "pairs"] (PuIR K CM CR C f_order g_order) := by
  refine okX F sc_Order___init__ (fun vs H Q E h => ?_) (fun cdv A outer s H vs Q E hr h => ?_)
  · obtain ⟨B, ds, x, dx, ws, rfl, _, _, _, ra, h⟩ := h
    rw [List.length_cons, ra.length]
    rcases h with ⟨ns, fs, ⟨n, ps, pl, rfl, _⟩, _⟩ | ⟨b, ⟨x, pl, rfl, _⟩, _⟩ <;> rfl
  obtain ⟨B, ds, x, dx, ws, rfl, e, hB, hH, ra, h⟩ := h
  refine ⟨_, pss_cons (ps_expr (pe_cal c1 (hr.mono (by decide)) (passes_call (E := E) (takes_of rfl rfl rfl rfl) fun _ _ _ _ h => h) (pa_cons (pv 1) pa_nil)))
    (pss_cons (ps_expr (pe_cal c2 (hr.mono (by decide)) (passes_call (E := E) (takes_of rfl rfl rfl rfl) fun _ _ _ _ h => h) (pa_cons (pv 1) (pa_cons (pv 2) pa_nil))))
    (pss_cons (ps_set (i := 3) sc_Order___init__.nd rfl (.inr rfl) (pe_cal c3 (hr.mono (by decide)) pass0 (pa_cons (pv 1) (pa_cons (pv 2) pa_nil))))
    (pss_cons (ps_if (pt_val (pe_callB (cr_any rfl) (by rfl) za (by decide +kernel) (pa_cons (pe_lc (own := [("x", 4)]) (g := gName 4) (tt := tYes) (te := tCall (Pu K f_has) [] E0 (tCons (tOp (rIxT K) (tVar 3) (tVar 4)) (tCons (tVar 4) tNil))) rfl sc_Order___init__.nd (pi_range1 (by rfl) zr (pa_cons (pv 1) pa_nil)) (blkOk_by (N := N_Order___init__) (sc := defScope s_Order___init__) (by decide +kernel))
        (fun _ _ _ _ _ => pg_name (i := 4) sc_Order___init__.nd rfl (Or.inl rfl)) (fun _ _ _ _ _ => pts_nil) (fun _ _ _ _ _ => pe_cal c4 (hr.mono (by decide)) pass0 (pa_cons (pe_ix ix_tup (pv 3) (pv 4) (fun _ _ => rfl)) (pa_cons (pv 4) pa_nil)))) pa_nil))) (pss_one (raise_r TR rfl (hr.mono (by decide)) (takes_of rfl rfl rfl rfl))) pss_nil)
    (pss_cons (ps_fld (pv 0) (pv 1) rfl) (pss_one (ps_fld (pv 0) (pv 3) rfl)))))), ?_⟩
  have gany : ∀ (n : Nat) (ps : List (Nat × Nat)) (pl : Da), n ≤ 10 → EvG K [none, some (.int (n : Int)), some pl, some (.tup (tab n (closF n ps))), none] (tCB (rAny K) (tCons (tLc (iRng1 (tCons (tVar 1) tNil)) (gName 4) tYes (tCall (Pu K f_has) [] E0 (tCons (tOp (rIxT K) (tVar 3) (tVar 4)) (tCons (tVar 4) tNil))) [4]) tNil)) (.bl ((List.range n).any fun i => clos n ps i i)) := fun n ps pl hn => by
    have g1 := g_lcN (K := K) (Γ := [none, some (.int (n : Int)), some pl, some (.tup (tab n (closF n ps))), none]) (tt := tYes) (te := tCall (Pu K f_has) [] E0 (tCons (tOp (rIxT K) (tVar 3) (tVar 4)) (tCons (tVar 4) tNil))) (wi := iRng1 (tCons (tVar 1) tNil)) (j := 4) (vs := [4]) (l := List.range n)
      (fun _ => true) (fun i => .bl (clos n ps i i)) (i_rngN (n := n) (s_cons (g_var rfl) s_nil) (by omega)) (by rw [List.length_range]; omega) (by decide) fun i hi => ⟨b_yes, fun _ => g_call (s_cons (g_ixT (g_var rfl) (g_var rfl) (at_nat (tab_get _ (List.mem_range.mp hi)))) (s_cons (g_var rfl) s_nil)) ⟨closF n ps i, i, rfl, by rw [rep_clos n ps]⟩⟩
    rw [filter_tt] at g1
    rw [← any_map]
    refine g_cb (s_cons (g1.to ?_) s_nil) c_any
    rw [List.map_map]
    rfl
  have gcl : ∀ {n : Nat} {ps : List (Nat × Nat)} {pl : Da}, Row (dPs ps) pl → n ≤ 10 → ps.length ≤ 100000 → InP n ps → f_closed [.int (n : Int), pl] (.tup (tab n (closF n ps))) := fun {n ps pl} hrow hn hlen hin => ⟨n, ps, pl, rfl, hrow, by omega, hlen, hin, rfl⟩
  have gcp : ∀ {n : Nat} {ps : List (Nat × Nat)} {pl : Da}, Row (dPs ps) pl → ps.length ≤ 100000 → InP n ps → f_chkpr [.int (n : Int), pl] .non := fun {n ps pl} hrow hlen hin => ⟨n, dPs ps, pl, rfl, hrow, by unfold dPs; rw [List.length_map]; exact hlen, fun p hp => by
    unfold dPs at hp
    obtain ⟨q, hq, rfl⟩ := List.mem_map.mp hp
    exact ⟨seen_dP q, isPr_dP (hin q hq)⟩, rfl⟩
  rcases h with ⟨ns, fs, ⟨n, ps, pl, rfl, hrow, hn, hlen, hin, hirr, rfl, rfl⟩, k⟩ | ⟨b, ⟨y, pl, rfl, hb⟩, k⟩
  · obtain ⟨v, u, rfl, r1, r2⟩ := rpa2 ra
    obtain rfl : v = .int (n : Int) := r1
    have hs : Sl K B [none, some (.int (n : Int)), some pl, none, none] [some (.ref x), some (.int (n : Int)), some u, none, none] := ⟨trivial, ⟨_, rfl, rfl⟩, ⟨_, rfl, r2⟩, trivial, trivial, trivial⟩
    refine q_drop (g_callR (d := .non) (s_cons (g_var rfl) s_nil) ⟨n, rfl, by omega, by omega, rfl⟩) hs e fun B1 H1 n1 hs => ?_
    refine q_drop (g_callR (s_cons (g_var rfl) (s_cons (g_var rfl) s_nil)) (gcp hrow hlen hin)) hs n1.ok fun B2 H2 n2 hs => ?_
    refine q_asg (g_call (s_cons (g_var rfl) (s_cons (g_var rfl) s_nil)) (gcl hrow hn hlen hin)) hs n2.ok fun v3 B3 H3 n3 r3 hs => ?_
    refine q_when ((b_B (gany n ps pl hn)).to (b := false) (any_rel.mpr hirr)) hs n3.ok (fun h => nomatch h) (fun _ B4 H4 n4 hs => ?_)
    have nn := ((n1.trans n2).trans n3).trans n4
    have m4 := nn.apart hB hH
    refine ⟨_, rfl, _, rfl, x, C, dx, [], rfl, m4.2, T.cl, T.nN, by decide, ?_⟩
    refine ⟨_, rfl, _, rfl, x, C, dx, _, rfl, upd_same, T.cl, T.nA, by show 1 < 1000; decide, ?_⟩
    refine k B4 _ [.int (n : Int), v3] nn.b (ex_mut (ex_mut nn.ok m4.1 (ml_of m4.2)) m4.1 (ml_of upd_same)) m4.1 ((Ex.mut (Ex.mut (del_sub.trans nn.h) delH_same (ml_of m4.2)) delH_same (ml_of upd_same))) nn.nw ?_ ⟨_, _, rfl, rfl, _, _, rfl, Rp.mono n4.b _ _ r3, rfl⟩
    · rw [upd_same, put2]
  · obtain ⟨v, u, rfl, r1, r2⟩ := rpa2 ra
    have hs : Sl K B [none, some y, some pl, none, none] [some (.ref x), some v, some u, none, none] := ⟨trivial, ⟨_, rfl, r1⟩, ⟨_, rfl, r2⟩, trivial, trivial, trivial⟩
    rcases hb with hb | ⟨n, rfl, hn, hb⟩ | ⟨n, ps, rfl, hn, hrow, hlen, hin, ⟨z, hz, hcy⟩, rfl⟩
    · exact bad_callR (s_cons (g_var rfl) s_nil) hb hs e k
    · refine q_drop (g_callR (d := .non) (s_cons (g_var rfl) s_nil) ⟨n, rfl, by omega, by omega, rfl⟩) hs e fun B1 H1 n1 hs => ?_
      exact bad_callR (s_cons (g_var rfl) (s_cons (g_var rfl) s_nil)) hb hs n1.ok (k.mono n1.h)
    · refine q_drop (g_callR (d := .non) (s_cons (g_var rfl) s_nil) ⟨n, rfl, by omega, by omega, rfl⟩) hs e fun B1 H1 n1 hs => ?_
      refine q_drop (g_callR (s_cons (g_var rfl) (s_cons (g_var rfl) s_nil)) (gcp hrow hlen hin)) hs n1.ok fun B2 H2 n2 hs => ?_
      refine q_asg (g_call (s_cons (g_var rfl) (s_cons (g_var rfl) s_nil)) (gcl hrow hn hlen hin)) hs n2.ok fun v3 B3 H3 n3 r3 hs => ?_
      exact q_if ((b_B (gany n ps pl hn)).to (b := true) (List.any_eq_true.mpr ⟨z, List.mem_range.mpr hz, hcy⟩)) hs n3.ok (fun _ B4 H4 n4 _ => ref_made (k.mono (((n1.trans n2).trans n3).trans n4).h)) (fun h => nomatch h)
end

def f_size (C : Addr) : List Da → Da → Prop := fun ds d => ∃ n g, ds = [dOrd C n g] ∧ d = .int (n : Int)
def f_atmost (C : Addr) : List Da → Da → Prop := fun ds d => ∃ (n : Nat) (f : Nat → Nat) (x y : Nat), ds = [dOrd C n f, .int (x : Int), .int (y : Int)] ∧ x < n ∧ d = .bl (decide (x = y) || (f x).testBit y)
def f_eqO2 (C : Addr) : List Da → Da → Prop := fun ds d => f_eqO C ds d ∨ ∃ n g es, ds = [dOrd C n g, .tup es] ∧ d = .bl false
theorem kit_no {K : PySem.W.Frag} {C : Addr} {T : String} {cd : ClassData} (h1 : PySem.W.clsIn K C = some cd) (h2 : PySem.W.typeIn K (.ref C) = some (.type "type")) (h3 : PySem.W.subIn K (.type T) (.ref C) = some false) : PySem.W.kitOne K (.type T) (.ref C) = some false := by
  unfold PySem.W.kitOne
  rw [if_neg (by simp)]
  show (if ((PySem.W.clsIn K C).isSome && PySem.W.typeIn K (.ref C) == some (.type "type")) = true then PySem.W.subIn K (.type T) (.ref C) else none) = some false
  rw [h1, h2, if_pos (by simp), h3]
section
variable {P : Program} {w : World} {K : PySem.W.Frag} {mg : Str → Option Value} {base : Heap} {f C CM CR : Addr} {fd : FuncData}
theorem ok_size (T : OrdC K C) (F : Fun K "size" "Order.size" s_Order_size f fd) : FnOk P w K mg base CX0 1 f fd ["self"] (Pu K (f_size C)) := by
  refine F.ok sc_Order_size (pu_len fun ds d ⟨n, g, e, _⟩ => by rw [e]; rfl) (fun cdv A outer s H vs Q E hr h => ?_)
  obtain ⟨B, ds, d, e, ra, ⟨n, g, rfl, rfl⟩, k⟩ := h
  obtain ⟨v, rfl, r1⟩ := rpa1 ra
  refine ⟨_, pss_one (ps_ret (pe_fld (pv 0) rfl)), ?_⟩
  exact body_of (K := K) (Γ := [some (dOrd C n g)]) (t_ret (g_fld (g_var rfl) T.cl T.nN (look_n _ _))) ⟨⟨_, rfl, r1⟩, trivial⟩ e k
theorem ok_olen (T : OrdC K C) (F : Fun K "__len__" "Order.__len__" s_Order___len__ f fd) (zn : mg "len" = none) : FnOk P w K mg base CX0 1 f fd ["self"] (Pu K (f_size C)) := by
  refine F.ok sc_Order___len__ (pu_len fun ds d ⟨n, g, e, _⟩ => by rw [e]; rfl) (fun cdv A outer s H vs Q E hr h => ?_)
  obtain ⟨B, ds, d, e, ra, ⟨n, g, rfl, rfl⟩, k⟩ := h
  obtain ⟨v, rfl, r1⟩ := rpa1 ra
  refine ⟨_, pss_one (ps_ret (pe_callB call_len_seq (by rfl) zn PySem.boot_len (pa_cons (pe_fld (pv 0) rfl) pa_nil))), ?_⟩
  refine body_of (K := K) (Γ := [some (dOrd C n g)]) (t_ret ((g_cb (s_cons (g_fld (g_var rfl) T.cl T.nA (look_a _ _)) s_nil) c_lenT).to ?_)) ⟨⟨_, rfl, r1⟩, trivial⟩ e k
  unfold tab
  rw [List.length_map, List.length_range]
theorem ok_eqO2 {fe : Addr} (T : OrdC K C) (q : EqC K C fe) (F : Fun K "__eq__" "Order.__eq__" s_Order___eq__ f fd) (zi : mg "isinstance" = none) (gC : mg "Order" = some (.ref C)) (hk : PySem.W.kitOne K (.ref C) (.ref C) = some true) (hn : PySem.W.kitOne K (.type "tuple") (.ref C) = some false) : FnOk P w K mg base CX0 1 f fd ["self", "other"] (Pu K (f_eqO2 C)) := by
  refine F.ok sc_Order___eq__ (pu_len fun ds d h => by
    rcases h with ⟨n, g, m, g2, rfl, _⟩ | ⟨n, g, es, rfl, _⟩ <;> rfl) (fun cdv A outer s H vs Q E hr h => ?_)
  obtain ⟨B, ds, d, e, ra, h, k⟩ := h
  refine ⟨_, pss_one (ps_ret (pe_and (pe_callB call_isi (by rfl) zi (by decide +kernel) (pa_cons (pv 1) (pa_cons (pe_glob (v := .ref C) (by rfl) gC rfl) pa_nil)))
    (pe_and (pe_cmpR op_eq (pe_fld (pv 0) rfl) (pe_fld (pv 1) rfl) (nomark _)) (pe_one (pe_cmpR (op_eqD hr.units) (pe_fld (pv 0) rfl) (pe_fld (pv 1) rfl) (nomark _)))))), ?_⟩
  rcases h with ⟨n, g, m, g2, rfl, rfl⟩ | ⟨n, g, es, rfl, rfl⟩
  · obtain ⟨v, u, rfl, r1, r2⟩ := rpa2 ra
    have hs : Sl K B [some (dOrd C n g), some (dOrd C m g2)] [some v, some u] := ⟨⟨_, rfl, r1⟩, ⟨_, rfl, r2⟩, trivial⟩
    exact q_ret (g_and (g_isiC q T.cl (g_var rfl) hk) fun _ => g_and (g_eqI (g_fld (g_var rfl) T.cl T.nN (look_n _ _)) (g_fld (g_var rfl) T.cl T.nN (look_n _ _))) fun _ => g_eqD (k := 1) (by decide) (g_fld (g_var rfl) T.cl T.nA (look_a _ _)) (g_fld (g_var rfl) T.cl T.nA (look_a _ _)) (dep_tab 0 _ _) (dep_tab 0 _ _)) hs e k
  · obtain ⟨v, u, rfl, r1, r2⟩ := rpa2 ra
    have hs : Sl K B [some (dOrd C n g), some (.tup es)] [some v, some u] := ⟨⟨_, rfl, r1⟩, ⟨_, rfl, r2⟩, trivial⟩
    have gi : EvG K [some (dOrd C n g), some (.tup es)] (tCB (rIsi K) (tCons (tVar 1) (tCons (tC (.ref C)) tNil))) (.bl false) := fun σ B H hs e Q k =>
      g_var (i := 1) rfl σ B H hs e _ fun x B1 H1 n1 rx => ⟨x, .ref C, .type "tuple", .ref C, false, rfl, .own C, ty_of n1.ok (d := .tup es) rfl rx, hn, (k.mono n1).now n1.ok rfl⟩
    exact q_ret (g_and (b := false) gi fun h => nomatch h) hs e k
end

/-! ### the state as a list of one's own -/
def SV (ds : List Da) : Prop := ∃ s t : Int, 0 ≤ s ∧ 0 ≤ t ∧ ds = [.int s, .int t]
section
variable {K : PySem.W.Frag} {B0 H0 B H : Hp} {Γ : Sls} {M : Mu} {ta tb to tx tm : TE} {tr : TA} {t : TS} {σ : L2.St} {D : Ends} {d : Da} {j o : Nat} {l : Addr} {ds : List Da} {E : XK} {P : Da → Mu → Prop}
theorem y_take {m : Nat} (hj : M[j]? = some (some o, l, ds)) (hv : SV ds) (hm : EvG K Γ tm (.int (m : Int))) (h1 : 0 < m) (h2 : m ≤ 1000000) (hp : ∀ (v : Nat) ds', v < m → SV ds' → P (.int (v : Int)) (M.set j (some o, l, ds'))) :
    EvY K B0 H0 Γ M (tCall spTake [] E (tCons (tVar o) (tCons tm tNil))) P := fun σ B H s Q q => by
  obtain ⟨sv, tv, s0, t0, rfl⟩ := hv
  refine ⟨.ref l, s.l _ (List.mem_of_getElem? hj) o rfl, hm σ B H s.s s.ok _ fun y B2 H2 n2 r2 => ?_⟩
  obtain rfl : y = .int (m : Int) := r2
  have s2 := s.nx n2
  obtain ⟨q1, q2, xs, q3, q4⟩ := s2.h.at hj
  obtain ⟨x1, x2, rfl, r1, r2⟩ := rpa2 q4
  obtain rfl : x1 = .int sv := r1
  obtain rfl : x2 = .int tv := r2
  refine ⟨l, (m : Int), sv, tv, rfl, by omega, by omega, q3, s0, t0, fun v s' t' v0 v1 s0 t0 => ?_⟩
  obtain ⟨i, rfl⟩ := Int.eq_ofNat_of_zero_le v0
  exact q _ _ (.int (i : Int)) B2 _ (hp i [.int s', .int t'] (by omega) ⟨s', t', s0, t0, rfl⟩) n2.b (s2.put hj ⟨_, _, rfl, rfl, _, _, rfl, rfl, rfl⟩) rfl
theorem nx_mx {p : Addr} {B H B2 H2 : Hp} (m : Mx p B H B2 H2) : Nx B (delH H p) B2 H2 := ⟨m.ok, m.b, m.h, fun a h1 h2 => by
    by_cases e : a = p
    · subst e
      exact m.bp
    · obtain ⟨u, hu, hc⟩ := h2
      rw [delH_ne e] at hu
      exact m.nw a h1 ⟨u, hu, hc⟩⟩
theorem y_shuf {m : Nat} (hj : M[j]? = some (some o, l, ds)) (hv : SV ds) (hm : EvG K Γ tm (.int (m : Int))) (h1 : m ≤ 1000) (hp : ∀ (ls : List Nat) ds', ls.Perm (List.range m) → SV ds' → P (.tup (dNs ls)) (M.set j (some o, l, ds'))) :
    EvY K B0 H0 Γ M (tCall (spShuf K) [] E (tCons (tVar o) (tCons tm tNil))) P := fun σ B H s Q q => by
  obtain ⟨sv, tv, s0, t0, rfl⟩ := hv
  refine ⟨.ref l, s.l _ (List.mem_of_getElem? hj) o rfl, hm σ B H s.s s.ok _ fun y B2 H2 n2 r2 => ?_⟩
  obtain rfl : y = .int (m : Int) := r2
  have s2 := s.nx n2
  obtain ⟨q1, q2, xs, q3, q4⟩ := s2.h.at hj
  obtain ⟨x1, x2, rfl, r1, r2⟩ := rpa2 q4
  obtain rfl : x1 = .int sv := r1
  obtain rfl : x2 = .int tv := r2
  refine ⟨B2, l, m, rfl, s2.ok, q2, ⟨sv, tv, q3, s0, t0⟩, h1, fun ls v B3 H3 hpm mx rv => ?_⟩
  obtain ⟨s', t', h3, s0, t0⟩ := id mx.st
  exact q _ _ v B3 H3 (hp ls [.int s', .int t'] hpm ⟨s', t', s0, t0, rfl⟩) (n2.b.trans mx.b) (s2.call hj (nx_mx mx) mx.bp h3 ⟨_, _, rfl, rfl, _, _, rfl, rfl, rfl⟩) rv
/-- a law's body behind its state, in slot 1 -/
theorem bodyL {H H1 : Hp} {p : Addr} (h : ∀ ds, SV ds → EvP K H H Γ [(some 1, p, ds)] t (fun o => ∃ M, o = .rt (.bl true) M)) (hs : Sl K H Γ σ) (hp : H p = none) (e : Ex H H1) (hS : St p H1) (hσ : σ[1]? = some (some (.ref p))) (k : ∀ H2, D.rt (.bl true) H2) : t D σ H1 := by
  obtain ⟨s0, t0, hpH, s00, t00⟩ := hS
  refine h [.int s0, .int t0] ⟨s0, t0, s00, t00, rfl⟩ σ H H1 D ⟨hs, ⟨⟨hp, hp, ⟨_, hpH, ⟨_, _, rfl, rfl, _, _, rfl, rfl, rfl⟩⟩, fun q hq => nomatch hq⟩, trivial⟩, fun m hm k hk => ?_, .grow (.refl _) e⟩ fun o po => ?_
  · obtain rfl := List.mem_singleton.mp hm
    cases (Option.some.inj hk : 1 = k)
    exact hσ
  · obtain ⟨M, rfl⟩ := po
    exact fun v B2 H2 _ _ _ r => by
      obtain rfl : v = .bl true := r
      exact k H2
end

end OF

namespace OF
open PySem PySem.Spec PyProof.Rows L2 Fo
open Evl (ixN_nat)
variable [Nm]
/-! ### draws as expressions -/
section
variable {K : PySem.W.Frag} {B0 H0 : Hp} {Γ : Sls} {M : Mus} {tm : TE} {k : Nat} {E : XK} {sv tv : Int}
theorem x_take {m : Int} (hm : EvG K Γ tm (.int m)) (h1 : 0 < m) (h2 : m < 1073741824) (hs : 0 ≤ sv) (ht : 0 ≤ tv) :
    EvX K B0 H0 Γ ((k, [.int sv, .int tv]) :: M) (tCall spTake [] E (tCons (tVar k) (tCons tm tNil))) (fun d M' => ∃ v s' t' : Int, d = .int v ∧ 0 ≤ v ∧ v < m ∧ 0 ≤ s' ∧ 0 ≤ t' ∧ M' = (k, [.int s', .int t']) :: M) := fun σ B H hsl hmu n Q q => by
  obtain ⟨⟨l, xs, e1, e2, e3, e4, e5, e6⟩, hr⟩ := hmu
  obtain ⟨x1, x2, rfl, r1, r2⟩ := rpa2 e5
  obtain rfl : x1 = .int sv := r1
  obtain rfl : x2 = .int tv := r2
  refine ⟨.ref l, e1, hm σ B H hsl n.ok _ fun y B2 H2 n2 r2 => ?_⟩
  obtain rfl : y = .int m := r2
  have m2 := n2.apart e3 e4
  refine ⟨l, m, sv, tv, rfl, h1, h2, m2.2, hs, ht, fun v s' t' v0 v1 s0 t0 => ?_⟩
  refine q (.int v) _ (.int v) B2 _ ⟨v, s', t', rfl, v0, v1, s0, t0, rfl⟩ ⟨n2.b, ⟨⟨l, _, e1, e2, m2.1, upd_same, ⟨_, _, rfl, rfl, _, _, rfl, rfl, rfl⟩, e6⟩, (hr.nx n2).updH e6⟩, (n.trans n2).mut e2 m2.1 (ml_of m2.2), fun q hq => ?_, fun a o hn a1 a2 a3 => ?_⟩ rfl
  · rcases List.mem_cons.mp hq with e | hq
    · subst e
      exact ⟨_, List.mem_cons_self, rfl⟩
    · exact ⟨q, List.mem_cons_of_mem _ hq, rfl⟩
  · have hne : a ≠ l := fun z => a3 _ List.mem_cons_self (by rw [z]; exact e1)
    have := n2.apart a1 a2 hn
    exact ⟨this.1, by rw [upd_ne hne]; exact this.2⟩
theorem x_shuf {m : Nat} (hm : EvG K Γ tm (.int (m : Int))) (h1 : m ≤ 1000) (hs : 0 ≤ sv) (ht : 0 ≤ tv) :
    EvX K B0 H0 Γ ((k, [.int sv, .int tv]) :: M) (tCall (spShuf K) [] E (tCons (tVar k) (tCons tm tNil))) (fun d M' => ∃ (l : List Nat) (s' t' : Int), d = .tup (dNs l) ∧ l.Perm (List.range m) ∧ 0 ≤ s' ∧ 0 ≤ t' ∧ M' = (k, [.int s', .int t']) :: M) := fun σ B H hsl hmu n Q q => by
  obtain ⟨⟨l, xs, e1, e2, e3, e4, e5, e6⟩, hr⟩ := hmu
  obtain ⟨x1, x2, rfl, r1, r2⟩ := rpa2 e5
  obtain rfl : x1 = .int sv := r1
  obtain rfl : x2 = .int tv := r2
  refine ⟨.ref l, e1, hm σ B H hsl n.ok _ fun y B2 H2 n2 r2 => ?_⟩
  obtain rfl : y = .int (m : Int) := r2
  have m2 := n2.apart e3 e4
  refine ⟨B2, l, m, rfl, n2.ok, m2.1, ⟨sv, tv, m2.2, hs, ht⟩, h1, fun ls v B3 H3 hp mx rv => ?_⟩
  obtain ⟨s', t', h3, s0, t0⟩ := id mx.st
  have n12 := n.trans n2
  have keep : ∀ {M : Mus}, MuS K H0 B2 H2 σ M → (∀ q ∈ M, σ[q.1]? ≠ some (some (.ref l))) → MuS K H0 B3 H3 σ M := fun {M} hm hn => by
    induction M with
    | nil => trivial
    | cons a M ih =>
      obtain ⟨⟨l2, xs, f1, f2, f3, f4, f5, f6⟩, hr⟩ := hm
      have hne : l2 ≠ l := fun z => hn a (by simp) (by rw [f1, z])
      have := mx.apart hne f3 f4
      exact ⟨⟨l2, xs, f1, f2, this.1, this.2, RpA.mono mx.b _ _ f5, f6⟩, ih hr fun q hq => hn q (List.mem_cons_of_mem _ hq)⟩
  refine q (.tup (dNs ls)) _ v B3 H3 ⟨ls, s', t', rfl, hp, s0, t0, rfl⟩ ⟨n2.b.trans mx.b, ⟨⟨l, _, e1, e2, mx.bp, h3, ⟨_, _, rfl, rfl, _, _, rfl, rfl, rfl⟩, e6⟩, keep (hr.nx n2) e6⟩, ⟨mx.ok, n12.b.trans mx.b, (ex_del n12.h e2 (ml_of m2.2)).trans mx.h, fun a ha hh => ?_⟩, fun q hq => ?_, fun a o hn a1 a2 a3 => ?_⟩ rv
  · exact mx.nw a (n12.nw a ha hh) (hh.ex n12.h)
  · rcases List.mem_cons.mp hq with e | hq
    · subst e
      exact ⟨_, List.mem_cons_self, rfl⟩
    · exact ⟨q, List.mem_cons_of_mem _ hq, rfl⟩
  · have hne : a ≠ l := fun z => a3 _ List.mem_cons_self (by rw [z]; exact e1)
    have := n2.apart a1 a2 hn
    exact mx.apart hne this.1 this.2 hn
/-- the start of a law: the state stands, n and the pairs are drawn -/
theorem nx_of_mx {p : Addr} {H H1 B2 H2 : Hp} (mx : Mx p H H1 B2 H2) (hp : H p = none) (e : Ex H H1) (hm : ML H1 p) : Nx H H B2 H2 :=
  ⟨mx.ok, mx.b, (ex_del e hp hm).trans mx.h, fun a h1 h2 => absurd h1 h2.ne⟩
end
/-! ### relations carried over -/
theorem clos_same {n : Nat} {T : Rel} {ps : List (Nat × Nat)} (hT : Trans T) (h1 : ∀ p ∈ ps, T p.1 p.2 = true) (h2 : ∀ x y, T x y = true → (x, y) ∈ ps) : clos n ps = T := by
  funext x y
  rw [Bool.eq_iff_iff]
  exact ⟨fun h => clos_least hT h1 x y h, fun h => clos_pair (h2 x y h)⟩
def cutR (m : Nat) (R : Rel) : Rel := fun x y => decide (x < m) && (decide (y < m) && R x y)
theorem cutR_iff {m x y : Nat} {R : Rel} : cutR m R x y = true ↔ x < m ∧ y < m ∧ R x y = true := by
  unfold cutR
  rw [Bool.and_eq_true, Bool.and_eq_true, decide_eq_true_iff, decide_eq_true_iff]
theorem clos_due {m : Nat} {R : Rel} (hT : ∀ x y z, x < m → y < m → z < m → R x y = true → R y z = true → R x z = true) : clos m (dueF m R m) = cutR m R := by
  refine clos_same (fun x y z h1 h2 => ?_) (fun p hp => ?_) (fun x y h => ?_)
  · rw [cutR_iff] at h1 h2 ⊢
    exact ⟨h1.1, h2.2.1, hT x y z h1.1 h1.2.1 h2.2.1 h1.2.2 h2.2.2⟩
  · exact cutR_iff.mpr (dueF_mem.mp hp)
  · exact dueF_mem.mpr (cutR_iff.mp h)
theorem flat_congr {α β : Type} {l : List α} {f g : α → List β} (h : ∀ x ∈ l, f x = g x) : l.flatMap f = l.flatMap g := by
  induction l with
  | nil => rfl
  | cons a l ih => rw [List.flatMap_cons, List.flatMap_cons, h a (by simp), ih fun x hx => h x (List.mem_cons_of_mem _ hx)]
theorem due_cut {n : Nat} {R : Rel} {i : Nat} (hi : i ≤ n) : dueF n (cutR n R) i = dueF n R i := flat_congr fun x hx => by
  have hx := List.mem_range.mp hx
  congr 1
  apply List.filter_congr
  intro y hy
  unfold cutR
  rw [decide_eq_true (by omega : x < n), decide_eq_true (List.mem_range.mp hy)]
  rfl
section
variable {K : PySem.W.Frag} {B0 H0 B H : Hp} {Γ : Sls} {M : Mus} {ta tb to tx : TE} {tr : TA} {t : TS} {σ : L2.St} {D : Ends} {d : Da}
theorem rg_eqI {i j : Int} : RG K rEq (.int i) (.int j) (.bl (decide (i = j))) := fun B H vx vy e rx ry Q k => by
  obtain rfl : vx = .int i := rx
  obtain rfl : vy = .int j := ry
  exact ⟨rfl, k.now e (by rw [Fo.dec_int]; rfl)⟩
theorem rg_ixL {ds : List Da} {i : Int} (h : atI ds i = some d) : RG K (rIxL K) (.lst ds) (.int i) d := fun B H vx vy e rx ry Q k => by
  obtain ⟨a, xs, rfl, h1, h2⟩ := rx
  obtain ⟨x, h3, h4⟩ := atI_rp h2 h
  exact ⟨a, xs, i, x, rfl, ry, sq1 e h1, h3, k.now e h4⟩
theorem xs_imp {P1 P2 : List Da → Mus → Prop} (h : EvXS K B0 H0 Γ M tr P1) (hp : ∀ d M', P1 d M' → P2 d M') : EvXS K B0 H0 Γ M tr P2 := fun σ B H hs hm n Q q =>
  h σ B H hs hm n Q fun d M' v B2 H2 p => q d M' v B2 H2 (hp d M' p)
theorem body_ofM (h : EvT K B0 H0 Γ M t (.rt d)) (hs : Sl K B Γ σ) (hm : MuS K H0 B H σ M) (n : Nx B0 H0 B H) (k : ∀ v B2 H2, Rp K B2 d v → D.rt v H2) : t D σ H := h σ B H D hs hm n fun v B2 H2 _ r => k v B2 H2 r
/-- xs.index(x) of a row of numbers that has it -/
theorem g_index {l : List Nat} {x : Nat} (ho : EvG K Γ to (.lst (dNs l))) (hx : EvG K Γ tx (.int (x : Int))) (hm : x ∈ l) : EvG K Γ (tBM K "list" (rIndex K) to (tCons tx tNil)) (.int (l.idxOf x : Nat)) := fun σ B H hs e Q k =>
  ho σ B H hs e _ fun v B1 H1 n1 r1 => by
    obtain ⟨a, xs, rfl, h1, h2⟩ := r1
    rw [dNs_ints] at h2
    obtain rfl := RpA.ints_of h2
    refine ⟨.inl ⟨rfl, _, sq1 n1.ok h1⟩, hx σ B1 H1 (hs.mono n1.b) n1.ok _ fun y B2 H2 n2 r2 => ?_⟩
    obtain rfl : y = .int (x : Int) := r2
    have hlt : l.idxOf x < l.length := List.idxOf_lt_length_iff.mpr hm
    have hg : l[l.idxOf x]? = some x := by rw [List.getElem?_eq_getElem hlt, List.getElem_idxOf hlt]
    refine ⟨a, _, .int (x : Int), l.idxOf x, .int (x : Int), rfl, rfl, sq1 n2.ok (n2.b _ _ h1), rfl, ?_, ?_, beq_self_eq_true _, fun m z' hm' hz => ?_, k _ B2 H2 (n1.trans n2) rfl⟩
    · rw [List.map_map, List.all_map, List.all_eq_true]
      intro z _
      rfl
    · rw [List.getElem?_map, List.getElem?_map, hg]
      rfl
    · rw [List.getElem?_map, List.getElem?_map] at hz
      obtain ⟨w, hw, e2⟩ := Option.map_eq_some_iff.mp hz
      obtain ⟨u, hu, e3⟩ := Option.map_eq_some_iff.mp hw
      subst e2
      subst e3
      show ((u : Int) == (x : Int)) = false
      rw [beq_eq_false_iff_ne]
      intro z
      have hux : u = x := by omega
      subst hux
      obtain ⟨hml, hme⟩ := List.getElem?_eq_some_iff.mp hu
      have := List.not_of_lt_findIdx (p := fun y => y == u) (xs := l) (i := m) hm'
      rw [hme] at this
      simp at this
theorem sub_dNs {l : List Da} {ms : List Nat} (h : l.Sublist (dNs ms)) : ∃ l2 : List Nat, l2.Sublist ms ∧ l = dNs l2 := by
  unfold dNs at h
  obtain ⟨l2, h1, h2⟩ := List.sublist_map_iff.mp h
  exact ⟨l2, h1, h2⟩
end
/-- the state as it stands: two numbers from 0 on in slot 1 -/
def SM (M : Mus) : Prop := ∃ s t : Int, 0 ≤ s ∧ 0 ≤ t ∧ M = [(1, [.int s, .int t])]
section
variable {K : PySem.W.Frag} {B0 H0 B H : Hp} {Γ : Sls} {M : Mus} {ta tb tm : TE} {tr : TA} {tt : TT} {post : Da → Mus → Prop}
theorem x_takeN {m : Nat} {E : XK} (hM : SM M) (hm : EvG K Γ tm (.int (m : Int))) (h1 : 0 < m) (h2 : m ≤ 1000000) : EvX K B0 H0 Γ M (tCall spTake [] E (tCons (tVar 1) (tCons tm tNil))) (fun d M' => ∃ v : Nat, d = .int (v : Int) ∧ v < m ∧ SM M') := by
  obtain ⟨s, t, hs, ht, rfl⟩ := hM
  refine x_imp (x_take hm (by omega) (by omega) hs ht) fun d M' h => ?_
  obtain ⟨v, s', t', rfl, h0, h1, h2, h3, rfl⟩ := h
  obtain ⟨i, rfl⟩ := Int.eq_ofNat_of_zero_le h0
  exact ⟨i, rfl, by omega, s', t', h2, h3, rfl⟩
theorem SM.keep {i : Nat} (h : SM M) (hi : 1 ≠ i) : ∀ q ∈ M, q.1 ≠ i := fun q hq => by
  obtain ⟨s, t, _, _, rfl⟩ := h
  obtain rfl := List.mem_singleton.mp hq
  exact hi
theorem x_if {P : Bool → Mus → Prop} (h : EvXB K B0 H0 Γ M tt P) (h1 : ∀ M', P true M' → EvX K B0 H0 Γ M' ta post) (h2 : ∀ M', P false M' → EvX K B0 H0 Γ M' tb post) : EvX K B0 H0 Γ M (tIf tt ta tb) post := fun σ B H hs hm n Q q =>
  h σ B H hs hm n _ fun b M1 B1 H1 p g1 => by
    cases b with
    | true =>
      rw [if_pos rfl]
      exact h1 M1 p σ B1 H1 (hs.mono g1.e) g1.m g1.n Q fun d M2 v B2 H2 p2 g2 => q d M2 v B2 H2 p2 (g1.trans g2)
    | false =>
      rw [if_neg Bool.false_ne_true]
      exact h2 M1 p σ B1 H1 (hs.mono g1.e) g1.m g1.n Q fun d M2 v B2 H2 p2 g2 => q d M2 v B2 H2 p2 (g1.trans g2)
theorem x_lst {P : List Da → Mus → Prop} (h : EvXS K B0 H0 Γ M tr P) (hl : ∀ ds M', P ds M' → ds.length ≤ 1000000 ∧ post (.lst ds) M') : EvX K B0 H0 Γ M (tLst tr) post := fun σ B H hs hm n Q q =>
  h σ B H hs hm n _ fun ds M1 vs B1 H1 p g1 r => ⟨size_ok (by rw [r.length]; exact (hl ds M1 p).1), fun p' hp => Goes.lst (K := K) (ds := ds) (fun v B2 H2 n2 rv => q (.lst ds) M1 v B2 H2 (hl ds M1 p).2 (g1.trans (.of g1.m g1.n n2)) rv) g1.n.ok r hp⟩
theorem x_tup {P : List Da → Mus → Prop} (h : EvXS K B0 H0 Γ M tr P) (hl : ∀ ds M', P ds M' → ds.length ≤ 1000000 ∧ post (.tup ds) M') : EvX K B0 H0 Γ M (tTup tr) post := fun σ B H hs hm n Q q =>
  h σ B H hs hm n _ fun ds M1 vs B1 H1 p g1 r => ⟨size_ok (by rw [r.length]; exact (hl ds M1 p).1), fun p' hp => Goes.tup (K := K) (ds := ds) (fun v B2 H2 n2 rv => q (.tup ds) M1 v B2 H2 (hl ds M1 p).2 (g1.trans (.of g1.m g1.n n2)) rv) g1.n.ok r hp⟩
theorem rg_cat {ds es : List Da} (hl : ds.length + es.length ≤ 1000000) : RG K rCat (.lst ds) (.lst es) (.lst (ds ++ es)) := fun B H vx vy e rx ry Q q => by
  obtain ⟨a, xs, rfl, h1, h2⟩ := rx
  obtain ⟨b, ys, rfl, h3, h4⟩ := ry
  exact ⟨a, b, xs, ys, rfl, rfl, e _ _ h1, e _ _ h3, size_ok (by rw [h2.length, h4.length]; exact hl), fun p hp => q.lst e (h2.append h4) hp⟩
theorem RpA.rev : ∀ {ds : List Da} {xs : List V}, RpA K B ds xs → RpA K B ds.reverse xs.reverse := fun h => Fo.RpA.reverse h
theorem g_revL {ds : List Da} (h : EvG K Γ ta (.lst ds)) : EvG K Γ (tRevL K ta) (.lst ds.reverse) := fun σ B H hs e Q k => h σ B H hs e _ fun v B1 H1 n1 r => by
  obtain ⟨a, xs, rfl, h1, h2⟩ := r
  exact ⟨a, xs, rfl, sq1 n1.ok h1, fun p hp => (k.mono n1).lst n1.ok (Fo.RpA.reverse h2) hp⟩
def cutD {α : Type} (xs : List α) (hi : Int) : List α := (xs.drop (HT.sIx xs.length 0 none)).take (HT.sIx xs.length xs.length (some hi) - HT.sIx xs.length 0 none)
theorem cutD_map {α β : Type} (f : α → β) (xs : List α) (hi : Int) : cutD (xs.map f) hi = (cutD xs hi).map f := by
  unfold cutD
  rw [List.length_map, List.map_take, List.map_drop]
theorem cutD_sub {α : Type} {xs : List α} {hi : Int} {x : α} (h : x ∈ cutD xs hi) : x ∈ xs := List.mem_of_mem_drop (List.mem_of_mem_take h)
theorem cutD_len {α : Type} (xs : List α) (hi : Int) : (cutD xs hi).length ≤ xs.length := by
  unfold cutD
  rw [List.length_take, List.length_drop]
  omega
theorem g_cut {ds : List Da} {hi : Int} (h : EvG K Γ ta (.lst ds)) : EvG K Γ (tSl (rSlL K) ta tNoPart (tPart (tC (.int hi)))) (.lst (cutD ds hi)) := fun σ B H hs e Q k => h σ B H hs e _ fun v B1 H1 n1 r => by
  obtain ⟨a, xs, rfl, h1, h2⟩ := r
  refine ⟨hi, rfl, a, xs, rfl, sq1 n1.ok h1, fun p hp => (k.mono n1).lst n1.ok ?_ hp⟩
  unfold cutD cutV
  rw [← h2.length]
  exact Fo.RpA.take _ (Fo.RpA.drop _ h2)
end
theorem clos_congr {n : Nat} {ps qs : List (Nat × Nat)} (h : ∀ p, p ∈ qs ↔ p ∈ ps) : clos n qs = clos n ps := by
  unfold clos
  have : initR qs = initR ps := by
    funext x y
    unfold initR
    rw [Bool.eq_iff_iff, List.contains_iff_mem, List.contains_iff_mem]
    exact h _
  rw [this]
theorem dPs_rev (ps : List (Nat × Nat)) : (dPs ps).reverse = dPs ps.reverse := by
  unfold dPs
  rw [List.map_reverse]
theorem dPs_cat (ps qs : List (Nat × Nat)) : dPs ps ++ dPs qs = dPs (ps ++ qs) := by
  unfold dPs
  rw [List.map_append]
theorem exm_of {K : PySem.W.Frag} {t : Value} {C : Addr} {cd : ClassData} {b : Bool} (h1 : PySem.W.subIn K (.ref C) (.type "BaseException") = some true) (h2 : PySem.W.clsIn K C = some cd) (h3 : PySem.W.typeIn K (.ref C) = some (.type "type")) (h4 : PySem.W.subIn K t (.ref C) = some b) : PySem.W.exmOne K t (.ref C) = some b := by
  unfold PySem.W.exmOne PySem.W.kitCls
  rw [h1, if_pos (by rfl)]
  show (if ((PySem.W.clsIn K C).isSome && PySem.W.typeIn K (.ref C) == some (.type "type")) = true then PySem.W.subIn K t (.ref C) else none) = some b
  rw [h2, h3, if_pos (by simp), h4]
end OF

namespace OF
open PySem PySem.Spec PyProof.Rows L2 Fo
open Evl (ixN_nat)
variable [Nm]
/-! ### the numbers that a law draws from -/
def spNums (K : PySem.W.Frag) : Sp := fun vs H Q _ => ∃ (a : Addr) (ns : List Int), vs = [.ref a] ∧ SqL K H a (ns.map V.int) ∧ ∀ p H2 (ms : List Nat), H p = none → Ex H H2 → H2 p = some (.lst (ms.map fun m : Nat => V.int (m : Int))) → ms.length ≤ 4000 → Q (.ref p) H2
def p_lnext : List Da → List Da → Prop := fun ds0 ds => (∃ ms : List Nat, ds0 = dNs ms) ∧ ∃ m : Nat, ds = [.int (m : Int)] ∧ 0 < m
def q_lnext : List Da → List Da → Da → List Da → Prop := fun ds0 ds d ds1 => (∃ ms : List Nat, ds1 = dNs ms) ∧ ∃ m v : Nat, ds = [.int (m : Int)] ∧ d = .int (v : Int) ∧ v < m
def OrdR (n : Nat) (f : Nat → Nat) (R : Rel) : Prop := Rep f R ∧ In n R ∧ Trans R ∧ ∃ pos : Nat → Nat, Up pos R
def p_lord : List Da → List Da → Prop := fun ds0 ds => (∃ ms : List Nat, ds0 = dNs ms) ∧ ∃ m : Nat, ds = [.int (m : Int)] ∧ m ≤ 9
def q_lord (C : Addr) : List Da → List Da → Da → List Da → Prop := fun ds0 ds d ds1 => (∃ ms : List Nat, ds1 = dNs ms) ∧ ∃ (m n : Nat) (f : Nat → Nat) (R : Rel), ds = [.int (m : Int)] ∧ n ≤ m ∧ OrdR n f R ∧ d = dOrd C n f
def f_ltable (C : Addr) : List Da → Da → Prop := fun ds d => ∃ n f R, ds = [dOrd C n f] ∧ n ≤ 100 ∧ Rep f R ∧ In n R ∧ d = dTab n R
theorem OrdR.irr {n : Nat} {f : Nat → Nat} {R : Rel} (h : OrdR n f R) (x : Nat) : R x x = false := by
  obtain ⟨_, _, _, pos, hp⟩ := h
  exact up_irr hp x
theorem OrdR.fits {n : Nat} {f : Nat → Nat} {R : Rel} (h : OrdR n f R) : Fits n f := fun x _ => rep_lt h.1 h.2.1 x
theorem i_rngN_at {n i : Nat} {d : Da} (h : (dNs (List.range n))[i]? = some d) : i < n ∧ d = .int (i : Int) := by
  obtain ⟨x, hx, rfl⟩ := dNs_at h
  obtain ⟨h1, h2⟩ := List.getElem?_eq_some_iff.mp hx
  rw [List.getElem_range] at h2
  rw [List.length_range] at h1
  subst h2
  exact ⟨h1, rfl⟩
theorem dNs_snoc (l : List Nat) (x : Nat) : dNs l ++ [.int (x : Int)] = dNs (l ++ [x]) := by
  unfold dNs
  rw [List.map_append]
  rfl
theorem dNs_erase : ∀ (l : List Nat) (i : Nat), (dNs l).eraseIdx i = dNs (l.eraseIdx i)
  | [], _ => rfl
  | _ :: _, 0 => rfl
  | x :: l, i + 1 => by
    show Da.int (x : Int) :: (dNs l).eraseIdx i = Da.int (x : Int) :: dNs (l.eraseIdx i)
    rw [dNs_erase l i]
theorem init_le {n : Nat} {f : Nat → Nat} {R : Rel} (h : Rep f R) (hI : In n R) : initR (pairsF n f) = R := by
  funext x y
  unfold initR
  rw [Bool.eq_iff_iff, List.contains_iff_mem, pairsF_mem, h]
  exact ⟨fun z => z.2.2, fun z => ⟨(hI x y z).1, (hI x y z).2, z⟩⟩
section
variable {P : Program} {w : World} {K : PySem.W.Frag} {mg : Str → Option Value} {base : Heap} {f C CM CR : Addr} {fd : FuncData}
set_option maxHeartbeats 4000000 in
theorem ok_lnums (F : Fun K "_law_numbers" "_law_numbers" s_law_numbers f fd) (z_range : mg "range" = none) (z_len : mg "len" = none) (z_min : mg "min" = none) (z_abs : mg "abs" = none) : FnOk P w K mg base CX0 1 f fd ["script"] (spNums K) := by
  refine F.ok sc_law_numbers (fun vs H Q E h => ?_) (fun cdv A outer s H vs Q E hr h => ?_)
  · obtain ⟨a, ns, rfl, _⟩ := h
    rfl
  obtain ⟨a, ns, rfl, hS, k⟩ := h
  -- slots: 0:script 1:found 2:k 3:cell 4:turn 5:i 6:mixed
  refine ⟨_, (pss_cons (ps_set (i := 1) sc_law_numbers.nd rfl (by first | exact .inl rfl | exact .inr rfl) (pe_lst pa_nil))
    (pss_cons (ps_for PassesOwn.never rfl (pi_range1 (by rfl) z_range (pa_cons (pe_callB (call_min2 rfl) (by rfl) z_min (by decide +kernel) (pa_cons (pe_callB call_len_seq (by rfl) z_len PySem.boot_len (pa_cons (pv 0) pa_nil)) (pa_cons pe_int pa_nil))) pa_nil)) (pg_name (i := 2) sc_law_numbers.nd rfl (by first | exact .inl rfl | exact .inr rfl)) (pss_cons (ps_set (i := 3) sc_law_numbers.nd rfl (by first | exact .inl rfl | exact .inr rfl) (pe_callB call_abs (by rfl) z_abs (by decide +kernel) (pa_cons (pe_ix ix_list (pv 0) (pv 2) (fun _ _ => rfl)) pa_nil)))
    (pss_one (ps_if (pt_cmpR op_ge (pv 3) (pe_op op_pow pe_int pe_int) (nomark _)) (pss_one (ps_for PassesOwn.never rfl (pi_range1 (by rfl) z_range (pa_cons pe_int pa_nil)) (pg_name (i := 4) sc_law_numbers.nd rfl (by first | exact .inl rfl | exact .inr rfl)) (pss_one (ps_if (pt_cmpR op_gt (pv 3) pe_int (nomark _)) (pss_cons (ps_expr (pe_bm PySem.F.plainAttrs_list PySem.F.slot_list_append PySem.F.type_list_append mt_append (pv 1) (pa_cons (pe_op op_mod (pv 3) pe_int) pa_nil)))
    (pss_one (ps_set (i := 3) sc_law_numbers.nd rfl (by first | exact .inl rfl | exact .inr rfl) (pe_op op_fdiv (pv 3) pe_int)))) pss_nil)))) (pss_one (ps_for PassesOwn.never rfl (pi_range1 (by rfl) z_range (pa_cons pe_int pa_nil)) (pg_name (i := 5) sc_law_numbers.nd rfl (by first | exact .inl rfl | exact .inr rfl)) (pss_cons (ps_set (i := 3) sc_law_numbers.nd rfl (by first | exact .inl rfl | exact .inr rfl) (pe_op op_mod (pe_op op_add (pe_op op_add (pe_op op_mul (pv 3) pe_int) (pe_op op_mul pe_int (pe_op op_add (pv 5) (pv 2)))) pe_int) pe_int))
    (pss_cons (ps_set (i := 6) sc_law_numbers.nd rfl (by first | exact .inl rfl | exact .inr rfl) (pe_op op_mod (pe_op op_add (pe_op op_mul (pv 3) pe_int) (pe_op op_fdiv (pv 3) pe_int)) pe_int))
    (pss_one (ps_expr (pe_bm PySem.F.plainAttrs_list PySem.F.slot_list_append PySem.F.type_list_append mt_append (pv 1) (pa_cons (pe_op op_mod (pv 6) pe_int) pa_nil))))))))))))
    (pss_one (ps_ret (pv 1))))), ?_⟩
  have key : ∀ {t : TS} {D : Ends}, D.rt = Q → EvP K H H [some (.raw (.ref a)), none, none, none, none, none, none] [] t (fun o => ∃ (q : Addr) (w : Option Nat) (ms : List Nat), o = .rt (.raw (.ref q)) [(w, q, dNs ms)] ∧ ms.length ≤ 4000) → t D [some (.ref a), none, none, none, none, none, none] H := fun {t D} hD h => by
    refine h _ H H D ⟨⟨⟨_, rfl, rfl⟩, trivial, trivial, trivial, trivial, trivial, trivial, trivial⟩, trivial, (fun m hm => nomatch hm), .refl (.refl _)⟩ fun o po => ?_
    obtain ⟨q, w, ms, rfl, hz⟩ := po
    refine fun v B2 H2 _ hm n r => ?_
    obtain ⟨⟨h1, _, ⟨xs, h3, h4⟩, _⟩, _⟩ := hm
    obtain rfl : v = .ref q := r
    rw [dNs_ints] at h4
    obtain rfl := RpA.ints_of h4
    rw [hD]
    refine k q H2 ms h1 n.h ?_ hz
    rw [h3, List.map_map]
    rfl
  refine key rfl ?_
  refine p_seq (p_new rfl (by simp) fun q => ?_)
  refine p_seq (p_forY (P0 := fun ds M' => ∃ m : Nat, ds = dNs (List.range m) ∧ m ≤ 63 ∧ m ≤ ns.length ∧ M' = [(some 1, q, [])]) (yi_rng1N (ys_cons (y_cb (P1 := fun es M' => es = [.int (ns.length : Nat), .int 63] ∧ M' = [(some 1, q, [])]) (P := fun d M' => ∃ m : Nat, d = .int (m : Int) ∧ m ≤ 63 ∧ m ≤ ns.length ∧ M' = [(some 1, q, [])]) (ys_cons (y_rowLen (P := fun d M' => d = .int (ns.length : Nat) ∧ M' = [(some 1, q, [])]) hS (g_var rfl) ⟨by rw [List.length_map], rfl⟩) fun d1 M1 ⟨e1, e2⟩ => by
      subst e1
      subst e2
      exact ys_of (s_cons g_int s_nil) ⟨rfl, rfl⟩) fun es M1 ⟨e1, e2⟩ => by
      subst e1
      refine ⟨_, c_min2, if (63 : Int) < (ns.length : Int) then 63 else ns.length, ?_, ?_, ?_, e2⟩
      · split <;> rfl
      · split <;> omega
      · split <;> omega) fun d1 M1 ⟨m, e1, h1, h2, e2⟩ => by
      subst e1
      exact ys_nil ⟨m, rfl, by omega, m, rfl, h1, h2, e2⟩))
    (fun ds i Γ1 M1 => ∃ (y2 y3 y4 y5 y6 : Option Da) (ms : List Nat), Γ1 = [some (.raw (.ref a)), none, y2, y3, y4, y5, y6] ∧ M1 = [(some 1, q, dNs ms)] ∧ ms.length ≤ i * 60) (fun ds M0 ⟨m, _, _, _, e2⟩ => ⟨none, none, none, none, none, [], rfl, e2, by simp⟩) (fun ds i Γ1 M1 ⟨_, _, _, _, _, _, _, e2, _⟩ m hm => by subst e2; simp at hm; subst hm; simp)
    (fun ds M0 i d Γ1 M1 ⟨m, e0, h1, h2, _⟩ hd ⟨y2, y3, y4, y5, y6, ms, e1, e2, hz⟩ => ?_) (fun ds M0 Γ1 M1 ⟨m, e0, h1, h2, _⟩ ⟨y2, y3, y4, y5, y6, ms, e1, e2, hz⟩ => ?_))
  · subst e0
    subst e1
    subst e2
    obtain ⟨hi, rfl⟩ := i_rngN_at hd
    have hil : i < ns.length := by omega
    obtain ⟨z, hzz⟩ : ∃ z, ns[i]? = some z := ⟨_, List.getElem?_eq_getElem hil⟩
    refine p_seq (p_asgY (P := fun d M' => ∃ c : Nat, d = .int (c : Int) ∧ M' = [(some 1, q, dNs ms)]) (y_cb (P1 := fun es M' => es = [.int z] ∧ M' = [(some 1, q, dNs ms)]) (ys_cons (y_rowIx (P := fun d M' => d = .int z ∧ M' = [(some 1, q, dNs ms)]) hS (g_var rfl) (g_var rfl) hzz ⟨rfl, rfl⟩) fun d1 M1 ⟨e1, e2⟩ => ys_nil ⟨by rw [e1], e2⟩) fun es M1 ⟨e1, e2⟩ => by
      subst e1
      refine ⟨_, c_abs, z.natAbs, ?_, e2⟩
      congr 1
      split <;> omega) fun d M1 ⟨c, e1, e2⟩ => ?_)
    subst e1
    subst e2
    refine ⟨by simp, ?_⟩
    refine p_if (b_test (g_IB (g_var rfl) (g_IC g_int g_int ⟨by decide, by decide, by decide⟩))) (fun hb => ?_) (fun hb => ?_)
    · refine p_for (i_rngN (n := 60) (s_cons g_int s_nil) (by decide)) (fun j Γ1 M1 => ∃ (c : Nat) (y4 : Option Da) (ms : List Nat), Γ1 = [some (.raw (.ref a)), none, some (.int (i : Int)), some (.int (c : Int)), y4, y5, y6] ∧ M1 = [(some 1, q, dNs ms)] ∧ ms.length ≤ i * 60 + j) ⟨c, y4, ms, rfl, rfl, hz⟩ (fun i Γ1 M1 ⟨_, _, _, _, e2, _⟩ m hm => by subst e2; simp at hm; subst hm; simp)
        (fun j d Γ1 M1 hd ⟨c, y4, ms, e1, e2, hz⟩ => ?_) (fun Γ1 M1 ⟨c, y4, ms, e1, e2, hz⟩ => ?_)
      · subst e1
        subst e2
        obtain ⟨hj, rfl⟩ := i_rngN_at hd
        refine p_if (b_test (g_IB (g_var rfl) g_int)) (fun _ => ?_) (fun _ => p_next ⟨c, _, ms, rfl, rfl, by omega⟩)
        refine p_seq (p_app (j := 0) rfl (y_pure (g_IC (g_var rfl) g_int (by decide))) fun d M1 ⟨e1, e2⟩ => ?_)
        subst e1
        subst e2
        refine ⟨dNs ms, rfl, by rw [dNs_len]; omega, ?_⟩
        refine p_asg (d := .int ((c / 1009 : Nat) : Int)) ((g_IC (g_var rfl) g_int ⟨by decide, by decide⟩).to rfl) (by simp) ⟨c / 1009, _, ms ++ [c % 1009], rfl, ?_, by rw [List.length_append]; show ms.length + 1 ≤ _; omega⟩
        show [(some 1, q, dNs ms ++ [.int ((c % 1009 : Nat) : Int)])] = _
        rw [dNs_snoc]
      · subst e1
        subst e2
        rw [dNs_len, List.length_range] at hz
        exact ⟨_, _, _, _, _, ms, rfl, rfl, by omega⟩
    · have hc : c < 10 ^ 18 := by
        have := of_decide_eq_false hb
        have e : (10 : Int) ^ ((18 : Int)).toNat = 1000000000000000000 := by decide
        rw [e] at this
        omega
      refine p_for (i_rngN (n := 5) (s_cons g_int s_nil) (by decide)) (fun j Γ1 M1 => ∃ (c : Nat) (y5 y6 : Option Da) (ms : List Nat), Γ1 = [some (.raw (.ref a)), none, some (.int (i : Int)), some (.int (c : Int)), y4, y5, y6] ∧ M1 = [(some 1, q, dNs ms)] ∧ c < 10 ^ 18 ∧ ms.length ≤ i * 60 + j) ⟨c, y5, y6, ms, rfl, rfl, hc, hz⟩ (fun i Γ1 M1 ⟨_, _, _, _, _, e2, _⟩ m hm => by subst e2; simp at hm; subst hm; simp)
        (fun j d Γ1 M1 hd ⟨c, y5, y6, ms, e1, e2, hc, hz⟩ => ?_) (fun Γ1 M1 ⟨c, y5, y6, ms, e1, e2, hc, hz⟩ => ?_)
      · subst e1
        subst e2
        obtain ⟨hj, rfl⟩ := i_rngN_at hd
        refine p_seq (p_asg (d := .int (((c * 48271 + 69621 * (j + i) + 11) % 2147483647 : Nat) : Int)) ((g_IC (g_II (g_II (g_IC (g_var rfl) g_int (.inr ⟨by decide, by decide⟩)) (g_IC g_int (g_II (g_var rfl) (g_var rfl)) (.inl ⟨by decide, by decide⟩))) g_int) g_int (by decide)).to ?_) (by simp) ?_)
        · congr 1
        have hc2 : (c * 48271 + 69621 * (j + i) + 11) % 2147483647 < 2147483647 := Nat.mod_lt _ (by decide)
        generalize (c * 48271 + 69621 * (j + i) + 11) % 2147483647 = c2 at *
        refine p_seq (p_asg (d := .int (((c2 * 16807 + c2 / 65536) % 2147483629 : Nat) : Int)) ((g_IC (g_II (g_IC (g_var rfl) g_int (.inr ⟨by decide, by decide⟩)) (g_IC (g_var rfl) g_int ⟨by decide, by decide⟩)) g_int (by decide)).to ?_) (by simp) ?_)
        · congr 1
        generalize (c2 * 16807 + c2 / 65536) % 2147483629 = c3 at *
        refine p_app (j := 0) rfl (y_pure (g_IC (g_var rfl) g_int (by decide))) fun d M1 ⟨e1, e2⟩ => ?_
        subst e1
        subst e2
        refine ⟨dNs ms, rfl, by rw [dNs_len]; omega, c2, _, _, ms ++ [c3 % 1009], rfl, ?_, by omega, by rw [List.length_append]; show ms.length + 1 ≤ _; omega⟩
        show [(some 1, q, dNs ms ++ [.int ((c3 % 1009 : Nat) : Int)])] = _
        rw [dNs_snoc]
      · subst e1
        subst e2
        rw [dNs_len, List.length_range] at hz
        exact ⟨_, _, _, _, _, ms, rfl, rfl, by omega⟩
  · subst e0
    subst e1
    subst e2
    rw [dNs_len, List.length_range] at hz
    exact p_raw (j := 0) rfl (p_ret (g_var rfl) ⟨q, _, ms, rfl, by omega⟩)
theorem ok_lnext (F : Fun K "_law_next" "_law_next" s_law_next f fd) (z_len : mg "len" = none) : FnOk P w K mg base CX0 1 f fd ["numbers", "many"] (PuM K p_lnext q_lnext) := by
  refine F.ok sc_law_next (fun vs H Q E h => ?_) (fun cdv A outer s H vs Q E hr h => ?_)
  · obtain ⟨B, l, xs, ds0, ds, ws, rfl, _, _, _, _, ra, ⟨_, n, rfl, _⟩, _⟩ := h
    rw [List.length_cons, ra.length]
    rfl
  obtain ⟨B, p, xs, ds0, ds, ws, rfl, e, hB, hH, ra0, ra, ⟨⟨ms, rfl⟩, m, rfl, hm⟩, k⟩ := h
  obtain ⟨u, rfl, r1⟩ := rpa1 ra
  -- slots: 0:numbers 1:many
  refine ⟨_, (pss_cons (ps_if (pt_cmpR op_eq (pe_callB call_len_seq (by rfl) z_len PySem.boot_len (pa_cons (pv 0) pa_nil)) pe_int (nomark _)) (pss_one (ps_ret pe_int)) pss_nil)
    (pss_one (ps_ret (pe_op op_mod (pe_bm PySem.F.plainAttrs_list PySem.F.slot_list_pop PySem.F.type_list_pop mt_popAt (pv 0) (pa_cons pe_int pa_nil)) (pv 1))))), ?_⟩
  refine bodyM (K := K) (Γ := [none, some (.int (m : Int))]) (vs := [.int (m : Int)]) (pM := q_lnext) ?_ ⟨trivial, ⟨_, rfl, r1⟩, trivial⟩ e hB hH ra0 rfl k
  refine p_seq (p_ifY (P := fun b M' => b = decide (((dNs ms).length : Int) = 0) ∧ M' = [(some 0, p, dNs ms)]) (yb_test (y_op (P1 := fun d M' => d = .int ((dNs ms).length : Nat) ∧ M' = [(some 0, p, dNs ms)]) (P2 := fun _ d M' => d = .int 0 ∧ M' = [(some 0, p, dNs ms)]) (y_len (j := 0) rfl ⟨rfl, rfl⟩) (fun d1 M1 ⟨_, e2⟩ => y_of g_int ⟨rfl, e2⟩) fun d1 M1 d2 M2 ⟨e1, e2⟩ ⟨e3, e4⟩ => by
      subst e1
      subst e3
      exact ⟨_, rg_eqI, _, rfl, rfl, e4⟩)) (fun M1 ⟨e1, e2⟩ => ?_) (fun M1 ⟨e1, e2⟩ => ?_))
  · subst e2
    exact p_ret g_int ⟨.int 0, dNs ms, _, rfl, ⟨ms, rfl⟩, m, 0, rfl, rfl, hm⟩
  · subst e2
    have hne : 0 < ms.length := by
      have := of_decide_eq_false e1.symm
      rw [dNs_len] at this
      omega
    refine p_next (p_retY (P := fun d M' => ∃ v : Nat, d = .int (v : Int) ∧ v < m ∧ M' = [(some 0, p, dNs (ms.eraseIdx 0))]) (y_op (P1 := fun d M' => ∃ v : Nat, d = .int (v : Int) ∧ M' = [(some 0, p, dNs (ms.eraseIdx 0))]) (P2 := fun _ d M' => d = .int (m : Int) ∧ M' = [(some 0, p, dNs (ms.eraseIdx 0))]) (y_popAt (j := 0) rfl (y_of g_int ⟨0, dNs ms, .int (ms[0] : Int), rfl, by decide, rfl, dNs_get (by simp [hne]), ms[0], rfl, by rw [dNs_erase]; rfl⟩)) (fun d1 M1 ⟨v, e1, e2⟩ => y_of (g_var rfl) ⟨rfl, e2⟩) fun d1 M1 d2 M2 ⟨v, e1, e2⟩ ⟨e3, e4⟩ => by
        subst e1
        subst e3
        exact ⟨.int ((v % m : Nat) : Int), r_I (by omega) fun _ => rfl, v % m, rfl, Nat.mod_lt _ hm, e4⟩) fun d M1 ⟨v, e1, hv, e2⟩ => ?_)
    subst e1
    subst e2
    exact ⟨_, _, _, rfl, ⟨_, rfl⟩, m, v, rfl, rfl, hv⟩
end
theorem l_idx {n : Nat} {l : List Nat} {ps : List (Nat × Nat)} (hl : l.Perm (List.range n)) (hps : ∀ r ∈ ps, ∃ x y, x < y ∧ y < n ∧ l[x]? = some r.1 ∧ l[y]? = some r.2) : InP n ps ∧ ∃ pos : Nat → Nat, ∀ r ∈ ps, pos r.1 < pos r.2 := by
  refine ⟨fun r hr => ?_, ⟨fun z => l.idxOf z, fun r hr => ?_⟩⟩
  · obtain ⟨x, y, hxy, hy, h1, h2⟩ := hps r hr
    have h3 := hl.mem_iff.mp (List.mem_of_getElem? h1)
    have h4 := hl.mem_iff.mp (List.mem_of_getElem? h2)
    exact ⟨List.mem_range.mp h3, List.mem_range.mp h4⟩
  · obtain ⟨x, y, hxy, hy, h1, h2⟩ := hps r hr
    have nd : l.Nodup := hl.nodup_iff.mpr List.nodup_range
    have ix : ∀ {i z : Nat}, l[i]? = some z → l.idxOf z = i := fun {i z} h => by
      obtain ⟨hi, e⟩ := List.getElem?_eq_some_iff.mp h
      have hz : z ∈ l := List.mem_of_getElem? h
      have h5 := List.idxOf_lt_length_iff.mpr hz
      have h6 : l[l.idxOf z] = z := List.getElem_idxOf h5
      exact (List.getElem_inj nd).mp (h6.trans e.symm)
    show l.idxOf r.1 < l.idxOf r.2
    rw [ix h1, ix h2]
    exact hxy
section
variable {K : PySem.W.Frag} {B0 H0 : Hp} {Γ : Sls} {M : Mu} {tm : TE} {j o : Nat} {l : Addr} {E : XK} {P : Da → Mu → Prop} {ms : List Nat}
theorem y_nextY (hj : M[j]? = some (some o, l, dNs ms)) (hm : EvY K B0 H0 Γ M tm (fun d M' => ∃ m : Nat, d = .int (m : Int) ∧ 0 < m ∧ M' = M ∧ ∀ (v : Nat) (ms' : List Nat), v < m → P (.int (v : Int)) (M.set j (some o, l, dNs ms')))) : EvY K B0 H0 Γ M (tCall (PuM K p_lnext q_lnext) [] E (tCons (tVar o) (tCons tm tNil))) P := by
  refine y_callM (P1 := fun es M' => ∃ m : Nat, es = [.int (m : Int)] ∧ 0 < m ∧ M' = M ∧ ∀ (v : Nat) (ms' : List Nat), v < m → P (.int (v : Int)) (M.set j (some o, l, dNs ms'))) hj (ys_cons hm fun d1 M1 ⟨m, e1, h1, e2, h2⟩ => ys_nil ⟨m, by rw [e1], h1, e2, h2⟩) fun es M1 ⟨m, e1, h1, e2, h2⟩ => ?_
  subst e1
  subst e2
  refine ⟨dNs ms, hj, ⟨⟨ms, rfl⟩, m, rfl, h1⟩, fun d ds1 ⟨⟨ms', e3⟩, m', v, e4, e5, hv⟩ => ?_⟩
  subst e3
  subst e5
  have em : m = m' := by
    have := Da.int.inj (List.head_eq_of_cons_eq e4)
    omega
  subst em
  exact h2 v ms' hv
theorem y_next {m : Nat} (hj : M[j]? = some (some o, l, dNs ms)) (hm : EvG K Γ tm (.int (m : Int))) (h1 : 0 < m) (hp : ∀ (v : Nat) (ms' : List Nat), v < m → P (.int (v : Int)) (M.set j (some o, l, dNs ms'))) : EvY K B0 H0 Γ M (tCall (PuM K p_lnext q_lnext) [] E (tCons (tVar o) (tCons tm tNil))) P :=
  y_nextY hj (y_of hm ⟨m, rfl, h1, rfl, hp⟩)
end
section
variable {P : Program} {w : World} {K : PySem.W.Frag} {mg : Str → Option Value} {base : Heap} {f C CM CR : Addr} {fd : FuncData}
theorem ok_lord (T : OrdC K C) (F : Fun K "_law_order" "_law_order" s_law_order f fd) (c_law_next : Cal P w K mg base CX0 1 "_law_next" ["numbers", "many"] (PuM K p_lnext q_lnext)) (c_init : CalI P w K mg base (L2.CX P w) 5 "Order" C ["self", "n", "pairs"] (PuIR K CM CR C f_order g_order)) (z_range : mg "range" = none) (z_len : mg "len" = none) : FnOk P w K mg base CX0 7 f fd ["numbers", "most"] (PuM K p_lord (q_lord C)) := by
  refine F.ok sc_law_order (fun vs H Q E h => ?_) (fun cdv A outer s H vs Q E hr h => ?_)
  · obtain ⟨B, l, xs, ds0, ds, ws, rfl, _, _, _, _, ra, ⟨_, n, rfl, _⟩, _⟩ := h
    rw [List.length_cons, ra.length]
    rfl
  obtain ⟨B, p, xs, ds0, ds, ws, rfl, e, hB, hH, ra0, ra, ⟨⟨ms, rfl⟩, m, rfl, hm⟩, k⟩ := h
  obtain ⟨u, rfl, r1⟩ := rpa1 ra
  -- slots: 0:numbers 1:most 2:n 3:images 4:rest 5:k 6:turn 7:thick 8:pairs 9:i 10:j
  refine ⟨_, (pss_cons (ps_set (i := 2) sc_law_order.nd rfl (by first | exact .inl rfl | exact .inr rfl) (pe_cal c_law_next (hr.mono (by decide)) pass0 (pa_cons (pv 0) (pa_cons (pe_op op_add (pv 1) pe_int) pa_nil))))
    (pss_cons (ps_set (i := 3) sc_law_order.nd rfl (by first | exact .inl rfl | exact .inr rfl) (pe_lst pa_nil))
    (pss_cons (ps_setLc (i := 4) (own := [("k", 5)]) (g := gName 5) (tt := tYes) (te := tVar 5) rfl sc_law_order.nd rfl rfl (sw_true rfl rfl rfl (by decide +kernel)) (pi_range1 (by rfl) z_range (pa_cons (pv 2) pa_nil)) (blkOk_by (N := N_law_order) (sc := defScope s_law_order) (by decide +kernel)) (fun _ _ _ _ _ => pg_name (i := 5) sc_law_order.nd rfl (by first | exact .inl rfl | exact .inr rfl)) (fun _ _ _ _ _ => pts_nil) (fun _ _ _ _ _ => pv 5))
    (pss_cons (ps_for PassesOwn.never rfl (pi_range1 (by rfl) z_range (pa_cons (pv 2) pa_nil)) (pg_name (i := 6) sc_law_order.nd rfl (by first | exact .inl rfl | exact .inr rfl)) (pss_one (ps_expr (pe_bm PySem.F.plainAttrs_list PySem.F.slot_list_append PySem.F.type_list_append mt_append (pv 3) (pa_cons (pe_bm PySem.F.plainAttrs_list PySem.F.slot_list_pop PySem.F.type_list_pop mt_popAt (pv 4) (pa_cons (pe_cal c_law_next (hr.mono (by decide)) pass0 (pa_cons (pv 0) (pa_cons (pe_callB call_len_seq (by rfl) z_len PySem.boot_len (pa_cons (pv 4) pa_nil)) pa_nil))) pa_nil)) pa_nil)))))
    (pss_cons (ps_set (i := 7) sc_law_order.nd rfl (by first | exact .inl rfl | exact .inr rfl) (pe_op op_add pe_int (pe_cal c_law_next (hr.mono (by decide)) pass0 (pa_cons (pv 0) (pa_cons pe_int pa_nil)))))
    (pss_cons (ps_set (i := 8) sc_law_order.nd rfl (by first | exact .inl rfl | exact .inr rfl) (pe_lst pa_nil))
    (pss_cons (ps_for PassesOwn.never rfl (pi_range1 (by rfl) z_range (pa_cons (pv 2) pa_nil)) (pg_name (i := 9) sc_law_order.nd rfl (by first | exact .inl rfl | exact .inr rfl)) (pss_one (ps_for PassesOwn.never rfl (pi_range1 (by rfl) z_range (pa_cons (pv 9) pa_nil)) (pg_name (i := 10) sc_law_order.nd rfl (by first | exact .inl rfl | exact .inr rfl)) (pss_one (ps_if (pt_cmpR op_eq (pe_cal c_law_next (hr.mono (by decide)) pass0 (pa_cons (pv 0) (pa_cons (pv 7) pa_nil))) pe_int (nomark _)) (pss_one (ps_expr (pe_bm PySem.F.plainAttrs_list PySem.F.slot_list_append PySem.F.type_list_append mt_append (pv 8) (pa_cons (pe_tup (pa_cons (pe_ix ix_list (pv 3) (pv 10) (fun _ _ => rfl)) (pa_cons (pe_ix ix_list (pv 3) (pv 9) (fun _ _ => rfl)) pa_nil))) pa_nil)))) pss_nil)))))
    (pss_one (ps_ret (pe_cali c_init (hr.mono (by decide)) passX0 (pa_cons (pv 2) (pa_cons (pv 8) pa_nil)))))))))))), ?_⟩
  refine bodyM (K := K) (Γ := [none, some (.int (m : Int)), none, none, none, none, none, none, none, none, none]) (vs := [.int (m : Int)]) (pM := q_lord C) ?_ ⟨trivial, ⟨_, rfl, r1⟩, trivial, trivial, trivial, trivial, trivial, trivial, trivial, trivial, trivial, trivial⟩ e hB hH ra0 rfl k
  refine p_seq (p_asgY (P := fun d M' => ∃ (n : Nat) (ms : List Nat), d = .int (n : Int) ∧ n ≤ m ∧ M' = [(some 0, p, dNs ms)]) (y_next (m := m + 1) (j := 0) rfl ((g_II (g_var rfl) g_int).to rfl) (by omega) fun v ms' hv => ⟨v, ms', rfl, by omega, rfl⟩) fun d M1 ⟨n, ms, e1, hn, e2⟩ => ?_)
  subst e1
  subst e2
  refine ⟨by simp, p_seq (p_new rfl (by simp) fun qi => ?_)⟩
  refine p_seq (p_lcOwn (P0 := fun ds M' => ds = dNs (List.range n) ∧ M' = [(some 3, qi, []), (some 0, p, dNs ms)]) (I := fun ds i acc M' => acc = ds.take i ∧ M' = [(some 3, qi, []), (some 0, p, dNs ms)]) rfl (yi_of (i_rngN (n := n) (s_cons (g_var rfl) s_nil) (by omega)) ⟨rfl, rfl⟩) (fun ds M1 ⟨e1, e2⟩ => ⟨by rw [e1, dNs_len, List.length_range]; omega, rfl, e2⟩) (by decide) (fun ds i acc M1 ⟨_, e2⟩ m hm k hk => by
      subst e2
      simp at hm hk
      subst hk
      rcases hm with rfl | rfl <;> simp) (fun ds i acc M1 ⟨e1, _⟩ => by rw [e1, List.length_take]; omega) (fun H0 ds M0 i d acc M1 _ hd ⟨e1, e2⟩ => yb_of b_yes (by
        rw [if_pos rfl]
        refine y_of (g_var rfl) ⟨?_, e2⟩
        obtain ⟨h1, h2⟩ := List.getElem?_eq_some_iff.mp hd
        rw [e1, take_snoc h1, h2])) (fun ds M0 acc M1 qr ⟨e0, _⟩ ⟨e1, e2⟩ => ?_))
  subst e0
  subst e2
  rw [List.take_length] at e1
  subst e1
  refine ⟨by simp, ?_⟩
  refine p_seq (p_for (i_rngN (n := n) (s_cons (g_var rfl) s_nil) (by omega)) (fun i Γ1 M1 => ∃ (y6 : Option Da) (L O ms : List Nat), Γ1 = [none, some (.int (m : Int)), some (.int (n : Int)), none, none, none, y6, none, none, none, none] ∧ M1 = [(some 4, qr, dNs L), (some 3, qi, dNs O), (some 0, p, dNs ms)] ∧ O.length = i ∧ (O ++ L).Perm (List.range n)) ⟨none, List.range n, [], ms, rfl, rfl, rfl, List.Perm.refl _⟩
    (fun i Γ1 M1 ⟨_, _, _, _, _, e2, _⟩ m hm => by subst e2; simp at hm; rcases hm with rfl | rfl | rfl <;> simp) (fun i d Γ1 M1 hd ⟨y6, L, O, ms, e1, e2, hO, hP⟩ => ?_) (fun Γ1 M1 ⟨y6, L, O, ms, e1, e2, hO, hP⟩ => ?_))
  · subst e1
    subst e2
    obtain ⟨hi, rfl⟩ := i_rngN_at hd
    have hlen := hP.length_eq
    rw [List.length_append, List.length_range] at hlen
    refine p_app (j := 1) (P := fun d M' => ∃ (z : Nat) (L2 ms2 : List Nat), d = .int (z : Int) ∧ M' = [(some 4, qr, dNs L2), (some 3, qi, dNs O), (some 0, p, dNs ms2)] ∧ (O ++ [z] ++ L2).Perm (List.range n)) rfl (y_popAt (j := 0) rfl (y_nextY (j := 2) rfl (y_len (j := 0) rfl ⟨L.length, by rw [dNs_len], by omega, rfl, fun v ms' hv => ⟨v, dNs L, .int ((L.getD v 0 : Nat) : Int), rfl, by omega, rfl, dNs_get ?_, L.getD v 0, L.eraseIdx v, ms', rfl, by rw [dNs_erase]; rfl, ?_⟩⟩))) (fun d M1 ⟨z, L2, ms2, e1, e2, hp2⟩ => ?_)
    · rw [List.getD_eq_getElem?_getD, List.getElem?_eq_getElem hv]
      rfl
    · rw [List.append_assoc]
      refine List.Perm.trans (List.Perm.append_left O ?_) hP
      exact erase_perm (by rw [List.getD_eq_getElem?_getD, List.getElem?_eq_getElem hv]; rfl)
    · subst e1
      subst e2
      refine ⟨dNs O, rfl, by rw [dNs_len]; omega, _, L2, O ++ [z], ms2, rfl, ?_, by rw [List.length_append, hO]; rfl, hp2⟩
      rw [← dNs_snoc]
      rfl
  subst e1
  subst e2
  rw [dNs_len, List.length_range] at hO
  have hL : L = [] := by
    have := hP.length_eq
    rw [List.length_append, List.length_range] at this
    exact List.eq_nil_of_length_eq_zero (by omega)
  subst hL
  rw [List.append_nil] at hP
  refine p_seq (p_asgY (P := fun d M' => ∃ (t : Nat) (ms : List Nat), d = .int (t : Int) ∧ 0 < t ∧ M' = [(some 4, qr, dNs []), (some 3, qi, dNs O), (some 0, p, dNs ms)]) (y_op (P1 := fun d M' => d = .int 2 ∧ M' = [(some 4, qr, dNs []), (some 3, qi, dNs O), (some 0, p, dNs ms)]) (P2 := fun _ d M' => ∃ (v : Nat) (ms : List Nat), d = .int (v : Int) ∧ M' = [(some 4, qr, dNs []), (some 3, qi, dNs O), (some 0, p, dNs ms)]) (y_of g_int ⟨rfl, rfl⟩) (fun d1 M1 ⟨e1, e2⟩ => by
      subst e2
      exact y_next (m := 3) (j := 2) rfl g_int (by decide) fun v ms' _ => ⟨v, ms', rfl, rfl⟩) fun d1 M1 d2 M2 ⟨e1, e2⟩ ⟨v, ms', e3, e4⟩ => by
      subst e1
      subst e3
      exact ⟨.int ((2 + v : Nat) : Int), r_I0 (fun _ => by show V.int ((2 + v : Nat) : Int) = V.int (2 + (v : Int)); congr 1), 2 + v, ms', rfl, by omega, e4⟩) fun d M1 ⟨t, ms, e1, ht, e2⟩ => ?_)
  subst e1
  subst e2
  refine ⟨by simp, ?_⟩
  refine p_frz (j := 1) rfl ?_
  refine p_seq (p_new rfl (by simp) fun qp => ?_)
  have hOl : O.length = n := hO
  refine p_seq (p_for (i_rngN (n := n) (s_cons (g_var rfl) s_nil) (by omega)) (fun i Γ1 M1 => ∃ (y9 y10 : Option Da) (ps : List (Nat × Nat)) (ms : List Nat), Γ1 = [none, some (.int (m : Int)), some (.int (n : Int)), some (.lst (dNs O)), none, none, y6, some (.int (t : Int)), none, y9, y10] ∧ M1 = [(some 8, qp, dPs ps), (some 4, qr, dNs []), (some 0, p, dNs ms)] ∧ ps.length ≤ i * n ∧ ∀ r ∈ ps, ∃ x y, x < y ∧ y < n ∧ O[x]? = some r.1 ∧ O[y]? = some r.2) ⟨none, none, [], ms, rfl, rfl, by simp, fun r hr => by cases hr⟩
    (fun i Γ1 M1 ⟨_, _, _, _, _, e2, _⟩ m hm => by subst e2; simp at hm; rcases hm with rfl | rfl | rfl <;> simp) (fun i d Γ1 M1 hd ⟨y9, y10, ps, ms, e1, e2, hz, hps⟩ => ?_) (fun Γ1 M1 ⟨y9, y10, ps, ms, e1, e2, hz, hps⟩ => ?_))
  · subst e1
    subst e2
    obtain ⟨hi, rfl⟩ := i_rngN_at hd
    refine p_for (i_rngN (n := i) (s_cons (g_var rfl) s_nil) (by omega)) (fun j Γ1 M1 => ∃ (y10 : Option Da) (ps : List (Nat × Nat)) (ms : List Nat), Γ1 = [none, some (.int (m : Int)), some (.int (n : Int)), some (.lst (dNs O)), none, none, y6, some (.int (t : Int)), none, some (.int (i : Int)), y10] ∧ M1 = [(some 8, qp, dPs ps), (some 4, qr, dNs []), (some 0, p, dNs ms)] ∧ ps.length ≤ i * n + j ∧ ∀ r ∈ ps, ∃ x y, x < y ∧ y < n ∧ O[x]? = some r.1 ∧ O[y]? = some r.2) ⟨y10, ps, ms, rfl, rfl, hz, hps⟩
      (fun i Γ1 M1 ⟨_, _, _, _, e2, _⟩ m hm => by subst e2; simp at hm; rcases hm with rfl | rfl | rfl <;> simp) (fun j d Γ1 M1 hd ⟨y10, ps, ms, e1, e2, hz, hps⟩ => ?_) (fun Γ1 M1 ⟨y10, ps, ms, e1, e2, hz, hps⟩ => ?_)
    · subst e1
      subst e2
      obtain ⟨hj, rfl⟩ := i_rngN_at hd
      refine p_ifY (P := fun _ M' => ∃ ms : List Nat, M' = [(some 8, qp, dPs ps), (some 4, qr, dNs []), (some 0, p, dNs ms)]) (yb_test (y_op (P1 := fun d M' => ∃ (v : Nat) (ms : List Nat), d = .int (v : Int) ∧ M' = [(some 8, qp, dPs ps), (some 4, qr, dNs []), (some 0, p, dNs ms)]) (P2 := fun _ d M' => d = .int 0 ∧ ∃ ms : List Nat, M' = [(some 8, qp, dPs ps), (some 4, qr, dNs []), (some 0, p, dNs ms)]) (y_next (j := 2) rfl (g_var rfl) ht fun v ms' _ => ⟨v, ms', rfl, rfl⟩) (fun d1 M1 ⟨v, ms', e1, e2⟩ => y_of g_int ⟨rfl, ms', e2⟩) fun d1 M1 d2 M2 ⟨v, ms', e1, e2⟩ ⟨e3, ms2, e4⟩ => by
        subst e1
        subst e3
        exact ⟨_, rg_eqI, _, rfl, ms2, e4⟩)) (fun M1 ⟨ms2, e2⟩ => ?_) (fun M1 ⟨ms2, e2⟩ => ?_)
      · subst e2
        have hx1 : i < O.length := by omega
        have hx2 : j < O.length := by omega
        refine p_app (j := 0) rfl (y_pure (g_tup (s_cons (g_ixL (g_var rfl) (g_var rfl) (at_nat (dNs_get (x := O[j]) (by simp [hx2])))) (s_cons (g_ixL (g_var rfl) (g_var rfl) (at_nat (dNs_get (x := O[i]) (by simp [hx1])))) s_nil)) (by show 2 ≤ 1000000; decide))) fun d M1 ⟨e1, e2⟩ => ?_
        subst e1
        subst e2
        have h9 : i * n ≤ 9 * 9 := Nat.mul_le_mul (by omega) (by omega)
        refine ⟨dPs ps, rfl, by unfold dPs; rw [List.length_map]; omega, _, ps ++ [(O[j], O[i])], ms2, rfl, ?_, by rw [List.length_append]; show ps.length + 1 ≤ _; omega, fun r hr => ?_⟩
        · unfold dPs
          rw [List.map_append]
          rfl
        · rcases List.mem_append.mp hr with hr | hr
          · exact hps r hr
          · obtain rfl := List.mem_singleton.mp hr
            exact ⟨j, i, hj, hi, by simp [hx2], by simp [hx1]⟩
      · subst e2
        exact p_next ⟨_, ps, ms2, rfl, rfl, by omega, hps⟩
    · subst e1
      subst e2
      rw [dNs_len, List.length_range] at hz
      refine ⟨_, _, ps, ms, rfl, rfl, ?_, hps⟩
      have : (i + 1) * n = i * n + n := Nat.succ_mul i n
      omega
  subst e1
  subst e2
  rw [dNs_len, List.length_range] at hz
  obtain ⟨h1, pos, h2⟩ := l_idx hP hps
  have h9 : n * n ≤ 9 * 9 := Nat.mul_le_mul (by omega) (by omega)
  refine p_frz (j := 0) rfl (p_forget 0 (p_ret (g_makeR (s_cons (g_var rfl) (s_cons (g_var rfl) s_nil)) ⟨n, ps, _, rfl, .inl rfl, by omega, by omega, h1, fun x _ => up_irr (up_clos h2) x, rfl, rfl⟩) ⟨_, dNs ms, _, rfl, ⟨ms, rfl⟩, m, n, closF n ps, clos n ps, rfl, hn, ⟨rep_clos n ps, in_clos h1, trans_clos h1, pos, up_clos h2⟩, rfl⟩))
theorem ok_ltable (T : OrdC K C) (F : Fun K "_law_table" "_law_table" s_law_table f fd) (m_size : CalM P w K mg base CX0 1 C "size" ["self"] (Pu K (f_size C))) (m_pairs : CalM P w K mg base CX0 4 C "pairs" ["self"] (Pu K (f_pairs C))) (z_range : mg "range" = none) : FnOk P w K mg base CX0 5 f fd ["order"] (Pu K (f_ltable C)) := by
  refine F.ok sc_law_table (pu_len fun ds d ⟨n, g, R, e, _⟩ => by rw [e]; rfl) (fun cdv A outer s H vs Q E hr h => ?_)
  obtain ⟨B, ds, d, e, ra, ⟨n, g, R, rfl, hn, hrep, hI, rfl⟩, k⟩ := h
  obtain ⟨u, rfl, r1⟩ := rpa1 ra
  -- slots: 0:order 1:n 2:table 3:y 4:x
  refine ⟨_, (pss_cons (ps_set (i := 1) sc_law_table.nd rfl (by first | exact .inl rfl | exact .inr rfl) (pe_calm0 (pv 0) T.cl m_size (hr.mono (by decide)) pass0))
    (pss_cons (ps_setLc (i := 2) (own := [("x", 4)]) (g := gName 4) (tt := tYes) (te := tLc (iRng1 (tCons (tVar 1) tNil)) (gName 3) tYes (tC (.bl false)) [3]) rfl sc_law_table.nd rfl rfl (sw_true rfl rfl rfl (by decide +kernel)) (pi_range1 (by rfl) z_range (pa_cons (pv 1) pa_nil)) (blkOk_by (N := N_law_table) (sc := defScope s_law_table) (by decide +kernel)) (fun _ _ _ _ _ => pg_name (i := 4) sc_law_table.nd rfl (by first | exact .inl rfl | exact .inr rfl)) (fun _ _ _ _ _ => pts_nil) (fun _ _ _ _ _ => pe_lc (own := [("y", 3)]) (g := gName 3) (tt := tYes) (te := tC (.bl false)) rfl sc_law_table.nd (pi_range1 (by rfl) z_range (pa_cons (pv 1) pa_nil)) (blkOk_by (N := N_law_table) (sc := relS (lcScope (kidS ((defBody s_law_table).getD 1 (.Pass ⟨0, 0, 0, 0⟩)) 0)) (defScope s_law_table)) (by decide +kernel)) (fun _ _ _ _ _ => pg_name (i := 3) sc_law_table.nd rfl (by first | exact .inl rfl | exact .inr rfl)) (fun _ _ _ _ _ => pts_nil) (fun _ _ _ _ _ => pe_bl)))
    (pss_cons (ps_for PassesOwn.never rfl (pi_tup (pe_calm0 (pv 0) T.cl m_pairs (hr.mono (by decide)) pass0)) (pg_tup (by rfl) (pgs_cons (pg_name (i := 4) sc_law_table.nd rfl (by first | exact .inl rfl | exact .inr rfl)) (pgs_cons (pg_name (i := 3) sc_law_table.nd rfl (by first | exact .inl rfl | exact .inr rfl)) pgs_nil))) (pss_one (ps_asg pe_bl (pg_sub (pe_ix ix_list (pv 2) (pv 4) (fun _ _ => rfl)) (pv 3) set_list))))
    (pss_one (ps_ret (pv 2)))))), ?_⟩
  have hs : Sl K B [some (dOrd C n g), none, none, none, none] [some u, none, none, none, none] := ⟨⟨_, rfl, r1⟩, trivial, trivial, trivial, trivial, trivial⟩
  refine q_asg (g_meth (g_var rfl) s_nil (by decide +kernel) ⟨n, g, rfl, rfl⟩) hs e fun v1 B0 H0 n0 r0 hs => ?_
  obtain rfl : v1 = .int (n : Int) := r0
  refine q_table (K := K) (s_cons (g_var rfl) s_nil) (fun i => s_cons (g_var rfl) s_nil) hs n0.ok (by omega) (by decide) (by decide) (fun t rs B1 H1 n1 hT h0 hB1 => ?_)
  have hps : InP n (pairsF n g) := fun p hp => ⟨(pairsF_mem.mp hp).1, (pairsF_mem.mp hp).2.1⟩
  have hs1 : Sl K B1 [some (dOrd C n g), some (.int (n : Int)), none, none, none] [some u, some (.int (n : Int)), some (.ref t), none, none] := ⟨⟨_, rfl, Rp.mono (n0.b.trans n1.b) _ _ r1⟩, ⟨_, rfl, rfl⟩, trivial, trivial, trivial, trivial⟩
  refine q_for (K := K) (i_tup (g_meth (g_var rfl) s_nil (by decide +kernel) ⟨n, g, rfl, by omega, fun x _ => rep_lt hrep hI x, rfl⟩)) hs1 n1.ok (fun i σ' B' H' => ∃ y3 y4, σ' = [some u, some (.int (n : Int)), some (.ref t), y3, y4] ∧ Nx B0 H0 B' H' ∧ (∀ a, a = t ∨ a ∈ rs → B' a = none) ∧ TabAt H' t rs n (initR ((pairsF n g).take i)))
    (fun B2 H2 n2 => ?_) (fun i σ' B' H' ⟨_, _, _, q, _⟩ => q.ok) (fun i d x σ' B' H' B2 H2 hd eb ⟨y3, y4, hσ, nx, hB, hT⟩ n2 rx => ?_) (fun σ' B' H' eb ⟨y3, y4, hσ, nx, hB, hT⟩ => ?_)
  · refine ⟨_, _, rfl, n1.trans n2, fun a ha => ?_, hT.ex n2.h⟩
    obtain ⟨o, ho, hc⟩ := hT.there ha
    exact (n2.apart (hB1 a ha) ho hc).1
  · subst hσ
    unfold dPs at hd
    rw [List.getElem?_map] at hd
    obtain ⟨p, hp, rfl⟩ := Option.map_eq_some_iff.mp hd
    have hpm := List.mem_of_getElem? hp
    obtain ⟨a, xs, rfl, h3, h4⟩ := rx
    obtain ⟨x1, x2, rfl, q1, q2⟩ := rpa2 h4
    obtain rfl : x1 = .int (p.1 : Int) := q1
    obtain rfl : x2 = .int (p.2 : Int) := q2
    have hT2 := hT.ex n2.h
    have hB2 : ∀ a, a = t ∨ a ∈ rs → B2 a = none := fun a ha => by
      obtain ⟨o, ho, hc⟩ := hT.there ha
      exact (n2.apart (hB a ha) ho hc).1
    refine ⟨a, _, rfl, ex_t n2.ok h3, rfl, _, [.int (p.2 : Int)], rfl, _, [], rfl, rfl, ?_⟩
    have hx := (hps p hpm).1
    have hz := (hps p hpm).2
    have hxr : p.1 < rs.length := by rw [hT2.len]; exact hx
    have hr : rs[p.1]? = some rs[p.1] := by simp [hxr]
    refine ⟨.ref t, rfl, .int (p.1 : Int), rfl, t, _, _, .ref rs[p.1], rfl, rfl, .inl (.inl hT2.tab), atI_nat (by rw [List.getElem?_map, hr]; rfl), .int (p.2 : Int), rfl, rs[p.1], _, (p.2 : Int), p.2, rfl, rfl, hT2.row _ _ hr, ixN_nat (by rw [List.length_map, List.length_range]; exact hz), ?_⟩
    have hTn := hT2.set (b := true) hr hz
    have hrm : rs[p.1] ∈ rs := List.getElem_mem _
    refine ⟨B2, n2.b, _, _, rfl, (nx.trans n2).mut (h0 _ (.inr hrm)) (hB2 _ (.inr hrm)) (hT2.ml (.inr hrm)), hB2, ?_⟩
    rw [take_snoc (List.getElem?_eq_some_iff.mp hp).1, (List.getElem?_eq_some_iff.mp hp).2, ← initR_snoc]
    exact hTn
  · subst hσ
    have el : (dPs (pairsF n g)).length = (pairsF n g).length := by unfold dPs; rw [List.length_map]
    rw [el, List.take_length, init_le hrep hI] at hT
    have n5 := nx.frzT hT h0 hB
    exact q_ret (K := K) (Γ := [none, none, some (dTab n R), none, none]) (g_var rfl) ⟨trivial, trivial, ⟨_, rfl, hT.rp⟩, trivial, trivial, trivial⟩ n5.ok (k.mono (n0.trans n5))
end
/-- a law's body behind its numbers, in slot 1 -/
theorem bodyNum {K : PySem.W.Frag} {Γ : Sls} {t : TS} {σ : L2.St} {D : Ends} {H H1 : Hp} {p : Addr} {ms : List Nat} (h : EvP K H H Γ [(some 1, p, dNs ms)] t (fun o => ∃ M, o = .rt (.bl true) M)) (hs : Sl K H Γ σ) (hp : H p = none) (e : Ex H H1) (hS : H1 p = some (.lst (ms.map fun m : Nat => V.int (m : Int)))) (hσ : σ[1]? = some (some (.ref p))) (k : ∀ H2, D.rt (.bl true) H2) : t D σ H1 := by
  refine h σ H H1 D ⟨hs, ⟨⟨hp, hp, ⟨_, hS, ?_⟩, fun q hq => nomatch hq⟩, trivial⟩, fun m hm k hk => ?_, .grow (.refl _) e⟩ fun o po => ?_
  · have := RpA.ints (K := K) (B := H) (ms.map fun m : Nat => (m : Int))
    rw [List.map_map, List.map_map] at this
    exact this
  · obtain rfl := List.mem_singleton.mp hm
    cases (Option.some.inj hk : 1 = k)
    exact hσ
  · obtain ⟨M, rfl⟩ := po
    exact fun v B2 H2 _ _ _ r => by
      obtain rfl : v = .bl true := r
      exact k H2
theorem y_order {K : PySem.W.Frag} {B0 H0 : Hp} {Γ : Sls} {M : Mu} {tm : TE} {j o m : Nat} {l : Addr} {E : XK} {P : Da → Mu → Prop} {ms : List Nat} {C : Addr} (hj : M[j]? = some (some o, l, dNs ms)) (hm : EvG K Γ tm (.int (m : Int))) (h9 : m ≤ 9) (hp : ∀ (n : Nat) f R (ms' : List Nat), n ≤ m → OrdR n f R → P (dOrd C n f) (M.set j (some o, l, dNs ms'))) : EvY K B0 H0 Γ M (tCall (PuM K p_lord (q_lord C)) [] E (tCons (tVar o) (tCons tm tNil))) P := by
  refine y_callM (P1 := fun es M' => es = [.int (m : Int)] ∧ M' = M) hj (ys_of (s_cons hm s_nil) ⟨rfl, rfl⟩) fun es M1 ⟨e1, e2⟩ => ?_
  subst e1
  subst e2
  refine ⟨dNs ms, hj, ⟨⟨ms, rfl⟩, m, rfl, h9⟩, fun d ds1 ⟨⟨ms', e3⟩, m', n, f, R, e4, hn, hO, e5⟩ => ?_⟩
  subst e3
  subst e5
  have em : m = m' := by
    have := Da.int.inj (List.head_eq_of_cons_eq e4)
    omega
  subst em
  exact hp n f R ms' hn hO
/-! ### ranks: the points that a chain of k + 1 points ends with -/
def rs (n : Nat) (R : Rel) : Nat → Nat → Bool
  | 0, x => decide (x < n)
  | k + 1, x => rs n R k x && (List.range n).any fun y => rs n R k y && R y x
def lev (n : Nat) (R : Rel) (k x : Nat) : Bool := rs n R k x && !rs n R (k + 1) x
def Hgt (n : Nat) (R : Rel) (h : Nat) : Prop := (∀ x, rs n R h x = false) ∧ ∀ k, k < h → ∃ x, rs n R k x = true
section
variable {n : Nat} {R : Rel} {pos : Nat → Nat}
theorem rs_down {k x : Nat} (h : rs n R (k + 1) x = true) : rs n R k x = true := by
  unfold rs at h
  rw [Bool.and_eq_true] at h
  exact h.1
theorem rs_le {x j : Nat} : ∀ {k : Nat}, j ≤ k → rs n R k x = true → rs n R j x = true
  | 0, hj, h => by
    have : j = 0 := by omega
    subst this
    exact h
  | k + 1, hj, h => by
    by_cases e : j = k + 1
    · subst e
      exact h
    · exact rs_le (k := k) (by omega) (rs_down h)
theorem rs_in {k x : Nat} (h : rs n R k x = true) : x < n := of_decide_eq_true (rs_le (j := 0) (Nat.zero_le k) h)
theorem rs_below {k x : Nat} (h : rs n R (k + 1) x = true) : ∃ y, rs n R k y = true ∧ R y x = true := by
  unfold rs at h
  rw [Bool.and_eq_true, List.any_eq_true] at h
  obtain ⟨_, y, _, h2⟩ := h
  rw [Bool.and_eq_true] at h2
  exact ⟨y, h2⟩
theorem rs_up {y x : Nat} (hx : x < n) (hR : R y x = true) : ∀ {k : Nat}, rs n R k y = true → rs n R (k + 1) x = true
  | 0, h => by
    show (decide (x < n) && _) = true
    rw [decide_eq_true hx, Bool.true_and, List.any_eq_true]
    exact ⟨y, List.mem_range.mpr (rs_in h), by rw [h, hR]; rfl⟩
  | k + 1, h => by
    have ih := rs_up hx hR (rs_down h)
    show (rs n R (k + 1) x && _) = true
    rw [ih, Bool.true_and, List.any_eq_true]
    exact ⟨y, List.mem_range.mpr (rs_in h), by rw [h, hR]; rfl⟩
theorem lev_iff {k x : Nat} : lev n R k x = true ↔ rs n R k x = true ∧ ∀ y, rs n R k y = true → R y x = false := by
  unfold lev
  rw [Bool.and_eq_true, Bool.not_eq_true']
  constructor
  · rintro ⟨h1, h2⟩
    refine ⟨h1, fun y hy => ?_⟩
    cases e : R y x with
    | false => rfl
    | true =>
      rw [rs_up (rs_in h1) e hy] at h2
      cases h2
  · rintro ⟨h1, h2⟩
    refine ⟨h1, ?_⟩
    cases e : rs n R (k + 1) x with
    | false => rfl
    | true =>
      obtain ⟨y, hy, hyx⟩ := rs_below e
      rw [h2 y hy] at hyx
      cases hyx
/-- the one of the least place -/
theorem rs_least (hU : Up pos R) {k : Nat} : ∀ (m x : Nat), pos x ≤ m → rs n R k x = true → ∃ y, lev n R k y = true
  | 0, x, hm, hx => ⟨x, lev_iff.mpr ⟨hx, fun y _ => by
      cases e : R y x with
      | false => rfl
      | true =>
        have := hU y x e
        omega⟩⟩
  | m + 1, x, hm, hx => by
    by_cases h : ∃ y, rs n R k y = true ∧ R y x = true
    · obtain ⟨y, h1, h2⟩ := h
      have := hU y x h2
      exact rs_least hU m y (by omega) h1
    · exact ⟨x, lev_iff.mpr ⟨hx, fun y hy => by
        cases e : R y x with
        | false => rfl
        | true => exact absurd ⟨y, hy, e⟩ h⟩⟩
theorem cnt_lt {p q : Nat → Bool} (l : List Nat) (h1 : ∀ x, q x = true → p x = true) {x : Nat} (hx : x ∈ l) (hp : p x = true) (hq : q x = false) : (l.filter q).length < (l.filter p).length := by
  induction l with
  | nil => cases hx
  | cons a l ih =>
    have hle : (l.filter q).length ≤ (l.filter p).length := by
      clear ih hx
      induction l with
      | nil => exact Nat.le_refl _
      | cons b l ih =>
        rw [List.filter_cons, List.filter_cons]
        cases e : q b with
        | true =>
          rw [if_pos rfl, if_pos (h1 b e), List.length_cons, List.length_cons]
          omega
        | false =>
          rw [if_neg Bool.false_ne_true]
          split
          · rw [List.length_cons]
            omega
          · exact ih
    rw [List.filter_cons, List.filter_cons]
    rcases List.mem_cons.mp hx with e | hx
    · subst e
      rw [hq, hp, if_neg Bool.false_ne_true, if_pos rfl, List.length_cons]
      omega
    · have := ih hx
      cases e : q a with
      | true =>
        rw [if_pos rfl, if_pos (h1 a e), List.length_cons, List.length_cons]
        omega
      | false =>
        rw [if_neg Bool.false_ne_true]
        split
        · rw [List.length_cons]
          omega
        · exact this
theorem cnt_rs (hU : Up pos R) : ∀ k, (∃ x, rs n R k x = true) → ((List.range n).filter (rs n R k)).length + k ≤ n
  | 0, _ => by
    have := List.length_filter_le (rs n R 0) (List.range n)
    rw [List.length_range] at this
    omega
  | k + 1, ⟨x, hx⟩ => by
    obtain ⟨y, hy⟩ := rs_least hU (pos x) x (Nat.le_refl _) (rs_down hx)
    have h1 := cnt_rs hU k ⟨x, rs_down hx⟩
    unfold lev at hy
    rw [Bool.and_eq_true, Bool.not_eq_true'] at hy
    have := cnt_lt (List.range n) (p := rs n R k) (q := rs n R (k + 1)) (fun z hz => rs_down hz) (List.mem_range.mpr (rs_in hy.1)) hy.1 hy.2
    omega
theorem hgt_of (hU : Up pos R) : ∃ h, h ≤ n ∧ Hgt n R h := by
  have key : ∀ m, (∃ h, h ≤ m ∧ Hgt n R h) ∨ ∀ k, k ≤ m → ∃ x, rs n R k x = true := fun m => by
    induction m with
    | zero =>
      by_cases h : ∃ x, rs n R 0 x = true
      · exact .inr fun k hk => by
          have : k = 0 := by omega
          subst this
          exact h
      · exact .inl ⟨0, Nat.le_refl _, fun x => by
          cases e : rs n R 0 x with
          | false => rfl
          | true => exact absurd ⟨x, e⟩ h, fun k hk => absurd hk (Nat.not_lt_zero _)⟩
    | succ m ih =>
      rcases ih with ⟨h, h1, h2⟩ | ih
      · exact .inl ⟨h, by omega, h2⟩
      · by_cases h : ∃ x, rs n R (m + 1) x = true
        · exact .inr fun k hk => by
            by_cases e : k = m + 1
            · subst e
              exact h
            · exact ih k (by omega)
        · exact .inl ⟨m + 1, Nat.le_refl _, fun x => by
            cases e : rs n R (m + 1) x with
            | false => rfl
            | true => exact absurd ⟨x, e⟩ h, fun k hk => ih k (by omega)⟩
  rcases key n with ⟨h, h1, h2⟩ | h
  · exact ⟨h, h1, h2⟩
  · obtain ⟨x, hx⟩ := h n (Nat.le_refl _)
    have h1 := cnt_rs hU n ⟨x, hx⟩
    have h2 : 0 < ((List.range n).filter (rs n R n)).length := List.length_pos_of_mem (a := x) (List.mem_filter.mpr ⟨List.mem_range.mpr (rs_in hx), hx⟩)
    omega
theorem Hgt.lt {h k x : Nat} (H : Hgt n R h) (hx : rs n R k x = true) : k < h := by
  refine Nat.lt_of_not_le fun hle => ?_
  have := rs_le hle hx
  rw [H.1 x] at this
  cases this
/-- each point has a rank -/
theorem rank_at {h x : Nat} (H : Hgt n R h) (hx : x < n) : ∃ r, r < h ∧ lev n R r x = true := by
  have key : ∀ m, (∃ r, lev n R r x = true) ∨ rs n R m x = true := fun m => by
    induction m with
    | zero => exact .inr (decide_eq_true hx)
    | succ m ih =>
      rcases ih with ih | ih
      · exact .inl ih
      · cases e : rs n R (m + 1) x with
        | true => exact .inr rfl
        | false =>
          refine .inl ⟨m, ?_⟩
          unfold lev
          rw [ih, e]
          rfl
  rcases key h with ⟨r, hr⟩ | hr
  · refine ⟨r, H.lt (x := x) ?_, hr⟩
    exact (lev_iff.mp hr).1
  · rw [H.1 x] at hr
    cases hr
theorem lev_one {j k x : Nat} (h1 : lev n R j x = true) (h2 : lev n R k x = true) : j = k := by
  unfold lev at h1 h2
  rw [Bool.and_eq_true, Bool.not_eq_true'] at h1 h2
  rcases Nat.lt_trichotomy j k with h | h | h
  · have := rs_le (Nat.succ_le_of_lt h) h2.1
    rw [h1.2] at this
    cases this
  · exact h
  · have := rs_le (Nat.succ_le_of_lt h) h1.1
    rw [h2.2] at this
    cases this
/-- a point of a level has one of the level before below it -/
theorem lev_below {k x : Nat} (h : lev n R (k + 1) x = true) : ∃ y, lev n R k y = true ∧ R y x = true := by
  obtain ⟨h1, h2⟩ := lev_iff.mp h
  obtain ⟨y, hy, hyx⟩ := rs_below h1
  refine ⟨y, ?_, hyx⟩
  unfold lev
  rw [hy, Bool.true_and, Bool.not_eq_true']
  cases e : rs n R (k + 1) y with
  | false => rfl
  | true =>
    rw [h2 y e] at hyx
    cases hyx
/-! chains as lists of points -/
def chL (R : Rel) (s : List Nat) : Bool := s.all fun x => s.all fun y => decide (x = y) || (R x y || R y x)
def cntB (R : Rel) (s : List Nat) (x : Nat) : Nat := (s.filter fun y => R y x).length
theorem chL_iff {s : List Nat} : chL R s = true ↔ ∀ x ∈ s, ∀ y ∈ s, x = y ∨ R x y = true ∨ R y x = true := by
  unfold chL
  rw [List.all_eq_true]
  constructor
  · intro h x hx y hy
    have := List.all_eq_true.mp (h x hx) y hy
    rw [Bool.or_eq_true, Bool.or_eq_true, decide_eq_true_iff] at this
    exact this
  · intro h x hx
    rw [List.all_eq_true]
    intro y hy
    rw [Bool.or_eq_true, Bool.or_eq_true, decide_eq_true_iff]
    exact h x hx y hy
theorem max_at {α : Type} (g : α → Nat) : ∀ (l : List α), l ≠ [] → ∃ m ∈ l, ∀ y ∈ l, g y ≤ g m
  | [], h => absurd rfl h
  | [a], _ => ⟨a, by simp, fun y hy => by rw [List.mem_singleton.mp hy]; exact Nat.le_refl _⟩
  | a :: b :: l, _ => by
    obtain ⟨m, hm, h⟩ := max_at g (b :: l) (by simp)
    by_cases e : g m ≤ g a
    · exact ⟨a, by simp, fun y hy => by
        rcases List.mem_cons.mp hy with rfl | hy
        · exact Nat.le_refl _
        · exact Nat.le_trans (h y hy) e⟩
    · exact ⟨m, List.mem_cons_of_mem _ hm, fun y hy => by
        rcases List.mem_cons.mp hy with rfl | hy
        · omega
        · exact h y hy⟩
theorem filter_le {p q : Nat → Bool} (l : List Nat) (h : ∀ x ∈ l, q x = true → p x = true) : (l.filter q).length ≤ (l.filter p).length := by
  induction l with
  | nil => exact Nat.le_refl _
  | cons b l ih =>
    have ih := ih fun x hx => h x (List.mem_cons_of_mem _ hx)
    rw [List.filter_cons, List.filter_cons]
    cases e : q b with
    | true =>
      rw [if_pos rfl, if_pos (h b (by simp) e), List.length_cons, List.length_cons]
      omega
    | false =>
      rw [if_neg Bool.false_ne_true]
      split
      · rw [List.length_cons]
        omega
      · exact ih
/-- in a chain: the number of points below x is at most the rank -/
theorem chain_rs (hT : Trans R) (hI : In n R) (hirr : ∀ x, R x x = false) {s : List Nat} (hs : chL R s = true) (hn : ∀ x ∈ s, x < n) (nd : s.Nodup) : ∀ (b x : Nat), x ∈ s → cntB R s x ≤ b → rs n R (cntB R s x) x = true
  | b, x, hx, hb => by
    by_cases h0 : cntB R s x = 0
    · rw [h0]
      exact decide_eq_true (hn x hx)
    · have hne : s.filter (fun y => R y x) ≠ [] := fun z => h0 (by unfold cntB; rw [z]; rfl)
      obtain ⟨m, hm, hmax⟩ := max_at (cntB R s) _ hne
      rw [List.mem_filter] at hm
      have hlt : cntB R s m < cntB R s x := cnt_lt s (fun z hz => hT z m x hz hm.2) hm.1 hm.2 (hirr m)
      have hge : cntB R s x ≤ cntB R s m + 1 := by
        have key : ∀ l : List Nat, l.Nodup → (∀ y ∈ l, y ∈ s) → (l.filter fun y => R y x).length ≤ (l.filter fun y => R y m).length + (l.filter fun y => decide (y = m)).length := fun l hl hls => by
          induction l with
          | nil => exact Nat.le_refl _
          | cons a l ih =>
            have ih := ih (List.nodup_cons.mp hl).2 fun y hy => hls y (List.mem_cons_of_mem _ hy)
            rw [List.filter_cons, List.filter_cons, List.filter_cons]
            by_cases e : R a x = true
            · rw [if_pos e]
              have ha := hls a (by simp)
              rcases chL_iff.mp hs a ha m hm.1 with e2 | e2 | e2
              · rw [if_pos (decide_eq_true e2)]
                split <;> (try simp only [List.length_cons]) <;> omega
              · rw [if_pos e2]
                split <;> (try simp only [List.length_cons]) <;> omega
              · have := hmax a (List.mem_filter.mpr ⟨ha, e⟩)
                have h2 : cntB R s m < cntB R s a := cnt_lt s (fun z hz => hT z m a hz e2) hm.1 e2 (hirr m)
                omega
            · rw [if_neg e]
              split <;> split <;> (try simp only [List.length_cons]) <;> omega
        have h1 := key s nd fun y hy => hy
        have h2 : (s.filter fun y => decide (y = m)).length ≤ 1 := by
          clear key h1 hmax hne hlt hs hx hb h0
          have hm1 := hm.1
          clear hm hn
          induction s with
          | nil => exact Nat.zero_le _
          | cons a l ih =>
            rw [List.filter_cons]
            obtain ⟨h1, h2⟩ := List.nodup_cons.mp nd
            by_cases e : a = m
            · rw [if_pos (decide_eq_true e), List.length_cons]
              have : l.filter (fun y => decide (y = m)) = [] := List.filter_eq_nil_iff.mpr fun y hy => by
                intro z
                have := of_decide_eq_true z
                subst this
                subst e
                exact h1 hy
              rw [this]
              exact Nat.le_refl _
            · rw [if_neg (by simpa using e)]
              rcases List.mem_cons.mp hm1 with e2 | e2
              · exact absurd e2.symm e
              · exact ih h2 e2
        unfold cntB at h1 ⊢
        omega
      have hb' : b ≠ 0 := by omega
      have ih := chain_rs hT hI hirr hs hn nd (b - 1) m hm.1 (by omega)
      have e : cntB R s x = cntB R s m + 1 := by omega
      rw [e]
      exact rs_up (hn x hx) hm.2 ih
  termination_by b => b
  decreasing_by omega
end
def dT (s : List Nat) : Da := .tup (dNs s)
theorem bitsOf_mem (n : Nat) (p : Nat → Bool) : mem n (bitsOf n p) = (List.range n).filter p := by
  unfold mem
  apply List.filter_congr
  intro x hx
  rw [bitsOf_test, decide_eq_true (List.mem_range.mp hx)]
  rfl
theorem filter_sorted (n : Nat) (p : Nat → Bool) : (((List.range n).filter p).map fun x : Nat => (x : Int)).Pairwise (· ≤ ·) := by
  rw [List.pairwise_map]
  exact (List.pairwise_lt_range.filter p).imp fun {a b} h => by
    show (a : Int) ≤ (b : Int)
    omega
end OF

namespace OF
open PySem PySem.Spec PyProof.Rows L2 Fo HandS.TR
open Evl (ixN_nat)
variable [Nm]
/-! ### ascending rows, chains and antichains as data -/
def pts : Da → List Nat
  | .tup es => es.map nat
  | _ => []
def ascL (n : Nat) (l : List Nat) : Bool := decide (l = (List.range n).filter fun x => decide (x ∈ l))
def ascB (n : Nat) : Da → Bool
  | .tup es => es.all (isPt (n : Int)) && ascL n (es.map nat)
  | _ => false
def anL (R : Rel) (s : List Nat) : Bool := s.all fun x => s.all fun y => !R x y
def SeenP (v : Da) : Prop := (∃ T, tyD v = some T) ∧ ∀ es, v = .tup es → es.length ≤ 1000 ∧ ∀ e ∈ es, ∃ T, tyD e = some T
def f_asc : List Da → Da → Prop := fun ds d => ∃ v, ∃ n : Nat, ds = [v, .int (n : Int)] ∧ n ≤ 100 ∧ SeenP v ∧ d = .bl (ascB n v)
def f_cch (C : Addr) : List Da → Da → Prop := fun ds d => ∃ n f R v, ds = [dOrd C n f, v] ∧ n ≤ 100 ∧ OrdR n f R ∧ SeenP v ∧ d = .bl (ascB n v && chL R (pts v))
def f_can (C : Addr) : List Da → Da → Prop := fun ds d => ∃ n f R v, ds = [dOrd C n f, v] ∧ n ≤ 100 ∧ OrdR n f R ∧ SeenP v ∧ d = .bl (ascB n v && anL R (pts v))
theorem pt_int {n : Int} {d : Da} (h : isPt n d = true) : d = .int (nat d : Int) ∧ (nat d : Int) < n := by
  cases d with
  | int i =>
    have h : (decide (0 ≤ i) && decide (i < n)) = true := h
    rw [Bool.and_eq_true, decide_eq_true_iff, decide_eq_true_iff] at h
    have e : ((nat (.int i) : Nat) : Int) = i := by
      show ((i.toNat : Nat) : Int) = i
      omega
    rw [e]
    exact ⟨rfl, h.2⟩
  | _ => cases h
theorem pts_int {n : Nat} {es : List Da} (h : es.all (isPt (n : Int)) = true) : es = dNs (es.map nat) ∧ ∀ x ∈ es.map nat, x < n := by
  constructor
  · unfold dNs
    rw [List.map_map]
    symm
    rw [← List.map_id es]
    rw [List.map_map]
    refine List.map_congr_left fun d hd => ?_
    have := (pt_int (List.all_eq_true.mp h d hd)).1
    exact this.symm
  · intro x hx
    obtain ⟨d, hd, rfl⟩ := List.mem_map.mp hx
    have := (pt_int (List.all_eq_true.mp h d hd)).2
    omega
theorem nat_dNs (l : List Nat) : (dNs l).map nat = l := by
  unfold dNs
  rw [List.map_map]
  have : (nat ∘ fun x : Nat => Da.int (x : Int)) = id := by
    funext x
    exact nat_int x
  rw [this, List.map_id]
theorem pts_dNs {n : Nat} {l : List Nat} (h : ∀ x ∈ l, x < n) : (dNs l).all (isPt (n : Int)) = true := by
  unfold dNs
  rw [List.all_map, List.all_eq_true]
  intro y hy
  have := h y hy
  show (decide ((0 : Int) ≤ (y : Int)) && decide ((y : Int) < (n : Int))) = true
  rw [decide_eq_true (by omega), decide_eq_true (by omega)]
  rfl
theorem setOf_bits {n : Nat} : ∀ {l : List Nat}, (∀ x ∈ l, x < n) → setOf l = bitsOf n fun x => decide (x ∈ l) := fun {l} h => by
  have test : ∀ (l : List Nat) (b y : Nat), (l.foldl (fun b x => b ||| 2 ^ x) b).testBit y = (b.testBit y || decide (y ∈ l)) := fun l => by
    induction l with
    | nil => exact fun b y => by simp
    | cons a l ih =>
      intro b y
      show (l.foldl _ (b ||| 2 ^ a)).testBit y = _
      rw [ih, Nat.testBit_or, Nat.testBit_two_pow, Bool.or_assoc]
      congr 1
      rw [Bool.eq_iff_iff, Bool.or_eq_true, decide_eq_true_iff, decide_eq_true_iff, decide_eq_true_iff, List.mem_cons]
      exact ⟨fun z => z.elim (fun e => .inl e.symm) .inr, fun z => z.elim (fun e => .inl e.symm) .inr⟩
  apply Nat.eq_of_testBit_eq
  intro y
  unfold setOf
  rw [test, Nat.zero_testBit, Bool.false_or, bitsOf_test]
  by_cases hy : y ∈ l
  · rw [decide_eq_true hy, decide_eq_true (h y hy)]
    rfl
  · rw [decide_eq_false hy, Bool.and_false]
theorem asc_dT {n : Nat} {p : Nat → Bool} : ascB n (dT ((List.range n).filter p)) = true := by
  show ((dNs _).all (isPt (n : Int)) && ascL n ((dNs _).map nat)) = true
  rw [pts_dNs fun x hx => List.mem_range.mp (List.mem_filter.mp hx).1, nat_dNs]
  unfold ascL
  refine decide_eq_true (List.filter_congr fun x hx => ?_)
  rw [Bool.eq_iff_iff, decide_eq_true_iff, List.mem_filter]
  exact ⟨fun h => ⟨hx, h⟩, fun h => h.2⟩
theorem pts_dT (l : List Nat) : pts (dT l) = l := nat_dNs l
theorem seen_dT (l : List Nat) (h : l.length ≤ 1000) : SeenP (dT l) := ⟨⟨_, rfl⟩, fun es e => by
  injection e with e
  subst e
  exact ⟨by rw [dNs_len]; exact h, fun d hd => by
    obtain ⟨x, _, rfl⟩ := dNs_mem hd
    exact ⟨_, rfl⟩⟩⟩
section
variable {P : Program} {w : World} {K : PySem.W.Frag} {mg : Str → Option Value} {base : Heap} {f C CM CR : Addr} {fd : FuncData}
theorem ok_asc (F : Fun K "is_ascending" "is_ascending" s_is_ascending f fd) (c_is_point : Cal P w K mg base CX0 2 "is_point" ["value", "n"] (Pu K f_ispt)) (c_set_of : Cal P w K mg base CX0 1 "set_of" ["points"] (Pu K f_setof)) (c_members : Cal P w K mg base CX0 2 "members" ["bits"] (Pu K f_members)) (z_isinstance : mg "isinstance" = none) (z_tuple : mg "tuple" = none) (z_all : mg "all" = none) : FnOk P w K mg base CX0 3 f fd ["value", "n"] (Pu K f_asc) := by
  refine F.ok sc_is_ascending (pu_len fun ds d ⟨v, n, e, _⟩ => by rw [e]; rfl) (fun cdv A outer s H vs Q E hr h => ?_)
  obtain ⟨B, ds, d, e, ra, ⟨v, n, rfl, hn, ⟨⟨Ty, hT⟩, hv⟩, rfl⟩, k⟩ := h
  obtain ⟨x, u, rfl, r1, r2⟩ := rpa2 ra
  -- slots: 0:value 1:n 2:x
  refine ⟨_, (pss_cons (ps_if ((pw_or (pt_not (pt_val (pe_callB call_isi (by rfl) z_isinstance (by decide +kernel) (pa_cons (pv 0) (pa_cons (pe_bltn (v := .ty "tuple") (by rfl) z_tuple (by decide +kernel) rfl) pa_nil))))) (pw_or1 (pt_not (pt_val (pe_callB (cr_all rfl) (by rfl) z_all (by decide +kernel) (pa_cons (pe_lc (own := [("x", 2)]) (g := gName 2) (tt := tYes) (te := tCall (Pu K f_ispt) [] E0 (tCons (tVar 2) (tCons (tVar 1) tNil))) rfl sc_is_ascending.nd (pi_tup (pv 0)) (blkOk_by (N := N_is_ascending) (sc := defScope s_is_ascending) (by decide +kernel)) (fun _ _ _ _ _ => pg_name (i := 2) sc_is_ascending.nd rfl (by first | exact .inl rfl | exact .inr rfl)) (fun _ _ _ _ _ => pts_nil) (fun _ _ _ _ _ => pe_cal c_is_point (hr.mono (by decide)) pass0 (pa_cons (pv 2) (pa_cons (pv 1) pa_nil)))) pa_nil)))))).pt) (pss_one (ps_ret pe_bl)) pss_nil)
    (pss_one (ps_ret (pe_cmpR (op_eqD hr.units) (pv 0) (pe_cal c_members (hr.mono (by decide)) pass0 (pa_cons (pe_cal c_set_of (hr.mono (by decide)) pass0 (pa_cons (pv 0) pa_nil)) pa_nil)) (nomark _))))), ?_⟩
  have hs : Sl K B [some v, some (.int (n : Int)), none] [some x, some u, none] := ⟨⟨_, rfl, r1⟩, ⟨_, rfl, r2⟩, trivial, trivial⟩
  refine bodyP ?_ hs e k
  by_cases htup : daTup v = true
  · obtain ⟨es, rfl⟩ : ∃ es, v = .tup es := by
      cases v with
      | tup es => exact ⟨es, rfl⟩
      | _ => cases htup
    obtain ⟨hlen, hes⟩ := hv es rfl
    have gall : EvG K [some (.tup es), some (.int (n : Int)), none] (tCB (rAll K) (tCons (tLc (iTup K (tVar 0)) (gName 2) tYes (tCall (Pu K f_ispt) [] E0 (tCons (tVar 2) (tCons (tVar 1) tNil))) [2]) tNil)) (.bl (es.all (isPt (n : Int)))) := by
      refine (g_cb (s_cons ((g_lc (vs := [2]) (fun _ => true) (fun p => .bl (isPt (n : Int) p)) (i_tup (ds := es) (g_var rfl)) (by omega) (t_name (fun σ x => wipe_back (by decide)) fun p hp => ⟨b_yes, fun _ => ?_⟩)).to (d2 := .lst ((es.map (isPt (n : Int))).map Da.bl)) (by rw [filter_tt, List.map_map]; rfl)) s_nil) c_all).to (by rw [List.all_map]; rfl)
      obtain ⟨T2, hT2⟩ := hes p hp
      exact g_call (s_cons (g_var rfl) (s_cons (g_var rfl) s_nil)) ⟨p, T2, n, rfl, hT2, rfl⟩
    refine p_seq (p_if (b_or (b_not (b_B (g_isi (g_var rfl) hT (kit_tuple hT)))) fun _ => b_not (b_B gall)) (fun hb => p_ret g_bl ?_) (fun hb => p_next ?_))
    · have : es.all (isPt (n : Int)) = false := by
        cases e2 : es.all (isPt (n : Int)) with
        | false => rfl
        | true =>
          rw [e2] at hb
          cases hb
      show Ou.rt (.bl false) [] = Ou.rt (.bl (es.all (isPt (n : Int)) && _)) []
      rw [this]
      rfl
    · have hall : es.all (isPt (n : Int)) = true := by
        cases e2 : es.all (isPt (n : Int)) with
        | true => rfl
        | false =>
          rw [e2] at hb
          cases hb
      obtain ⟨h1, h2⟩ := pts_int hall
      have hd : ascB n (.tup es) = ascL n (es.map nat) := by
        show (es.all (isPt (n : Int)) && _) = _
        rw [hall]
        rfl
      rw [hd]
      clear hd gall hb
      rw [h1] at hes hlen ⊢
      rw [nat_dNs]
      generalize es.map nat = l at *
      rw [dNs_len] at hlen
      refine p_ret ((g_eqD (k := 1) (by decide) (g_var rfl) (g_call (d := .tup (dNs (mem n (setOf l)))) (s_cons (g_call (d := .int (setOf l : Int)) (s_cons (g_var rfl) s_nil) ⟨l, _, rfl, .inr rfl, fun x hx => by have := h2 x hx; omega, rfl⟩) s_nil) ⟨setOf l, n, rfl, by rw [setOf_bits h2]; exact bitsOf_lt _ _, by omega, rfl⟩) (show dep 1 (.tup (dNs l)) = true from dep_lNs l) (show dep 1 (.tup (dNs (mem n (setOf l)))) = true from dep_lNs _)).to ?_) rfl
      congr 1
      show PyData.eqv (.tuple (toPs (dNs l))) (.tuple (toPs (dNs (mem n (setOf l))))) = _
      rw [PyData.eqv, dNs_ints, dNs_ints, eqv_ns, setOf_bits h2, bitsOf_mem]
      unfold ascL
      refine decide_eq_decide.mpr ⟨fun z => ?_, fun z => by rw [← z]⟩
      have := congrArg (List.map Int.toNat) z
      rw [List.map_map, List.map_map] at this
      have e3 : (Int.toNat ∘ fun x : Nat => (x : Int)) = id := by
        funext x
        exact Int.toNat_natCast x
      rw [e3, List.map_id, List.map_id] at this
      exact this
  · have hf : daTup v = false := by simpa using htup
    refine p_seq (p_yes ((b_or (b := false) (b_not (b_B (g_isi (g_var rfl) hT (kit_tuple hT)))) fun h => by rw [hf] at h; cases h).to (by rw [hf]; rfl)) (p_ret g_bl ?_))
    cases v with
    | tup es => cases hf
    | _ => rfl
theorem ok_cch (T : OrdC K C) (F : Fun K "is_chain" "is_chain" s_is_chain f fd) (c_is_ascending : Cal P w K mg base CX0 3 "is_ascending" ["value", "n"] (Pu K f_asc)) (c_set_of : Cal P w K mg base CX0 1 "set_of" ["points"] (Pu K f_setof)) (m_is_chain : CalM P w K mg base CX0 4 C "is_chain" ["self", "bits"] (Pu K (f_isch C))) : FnOk P w K mg base CX0 5 f fd ["order", "points"] (Pu K (f_cch C)) := by
  refine F.ok sc_is_chain (pu_len fun ds d ⟨n, g, R, v, e, _⟩ => by rw [e]; rfl) (fun cdv A outer s H vs Q E hr h => ?_)
  obtain ⟨B, ds, d, e, ra, ⟨n, g, R, v, rfl, hn, hO, hv, rfl⟩, k⟩ := h
  obtain ⟨x, u, rfl, r1, r2⟩ := rpa2 ra
  -- slots: 0:order 1:points
  refine ⟨_, (pss_one (ps_ret (pe_and (pe_cal c_is_ascending (hr.mono (by decide)) pass0 (pa_cons (pv 1) (pa_cons (pe_fld (pv 0) rfl) pa_nil))) (pe_one (pe_calm (pv 0) T.cl m_is_chain (hr.mono (by decide)) pass0 (pa_cons (pe_cal c_set_of (hr.mono (by decide)) pass0 (pa_cons (pv 1) pa_nil)) pa_nil)))))), ?_⟩
  have hs : Sl K B [some (dOrd C n g), some v] [some x, some u] := ⟨⟨_, rfl, r1⟩, ⟨_, rfl, r2⟩, trivial⟩
  refine q_ret (g_and (g_call (s_cons (g_var rfl) (s_cons (g_fld (g_var rfl) T.cl T.nN (look_n _ _)) s_nil)) ⟨v, n, rfl, hn, hv, rfl⟩) fun ha => ?_) hs e k
  cases v with
  | tup es =>
    have ha : (es.all (isPt (n : Int)) && ascL n (es.map nat)) = true := ha
    rw [Bool.and_eq_true] at ha
    obtain ⟨h1, h2⟩ := pts_int ha.1
    have h3 := of_decide_eq_true ha.2
    show EvG K _ _ (.bl (chL R (es.map nat)))
    clear hv k
    generalize hl : es.map nat = l at h1 h2 h3 ⊢
    subst h1
    refine (g_meth (g_var rfl) (s_cons (g_call (s_cons (g_var rfl) s_nil) ⟨l, _, rfl, .inr rfl, fun x hx => by have := h2 x hx; omega, rfl⟩) s_nil) (by decide +kernel) ⟨n, g, setOf l, rfl, by omega, by rw [setOf_bits h2]; exact bitsOf_lt _ _, rfl⟩).to ?_
    rw [setOf_bits h2, bitsOf_mem, ← h3]
    congr 1
    unfold chL
    congr 1
    funext a
    congr 1
    funext b
    rw [hO.1, hO.1]
  | _ => cases ha
theorem ok_can (T : OrdC K C) (F : Fun K "is_antichain" "is_antichain" s_is_antichain f fd) (c_is_ascending : Cal P w K mg base CX0 3 "is_ascending" ["value", "n"] (Pu K f_asc)) (c_set_of : Cal P w K mg base CX0 1 "set_of" ["points"] (Pu K f_setof)) (m_is_antichain : CalM P w K mg base CX0 3 C "is_antichain" ["self", "bits"] (Pu K (f_isanti C))) : FnOk P w K mg base CX0 4 f fd ["order", "points"] (Pu K (f_can C)) := by
  refine F.ok sc_is_antichain (pu_len fun ds d ⟨n, g, R, v, e, _⟩ => by rw [e]; rfl) (fun cdv A outer s H vs Q E hr h => ?_)
  obtain ⟨B, ds, d, e, ra, ⟨n, g, R, v, rfl, hn, hO, hv, rfl⟩, k⟩ := h
  obtain ⟨x, u, rfl, r1, r2⟩ := rpa2 ra
  -- slots: 0:order 1:points
  refine ⟨_, (pss_one (ps_ret (pe_and (pe_cal c_is_ascending (hr.mono (by decide)) pass0 (pa_cons (pv 1) (pa_cons (pe_fld (pv 0) rfl) pa_nil))) (pe_one (pe_calm (pv 0) T.cl m_is_antichain (hr.mono (by decide)) pass0 (pa_cons (pe_cal c_set_of (hr.mono (by decide)) pass0 (pa_cons (pv 1) pa_nil)) pa_nil)))))), ?_⟩
  have hs : Sl K B [some (dOrd C n g), some v] [some x, some u] := ⟨⟨_, rfl, r1⟩, ⟨_, rfl, r2⟩, trivial⟩
  refine q_ret (g_and (g_call (s_cons (g_var rfl) (s_cons (g_fld (g_var rfl) T.cl T.nN (look_n _ _)) s_nil)) ⟨v, n, rfl, hn, hv, rfl⟩) fun ha => ?_) hs e k
  cases v with
  | tup es =>
    have ha : (es.all (isPt (n : Int)) && ascL n (es.map nat)) = true := ha
    rw [Bool.and_eq_true] at ha
    obtain ⟨h1, h2⟩ := pts_int ha.1
    have h3 := of_decide_eq_true ha.2
    show EvG K _ _ (.bl (anL R (es.map nat)))
    clear hv k
    generalize hl : es.map nat = l at h1 h2 h3 ⊢
    subst h1
    refine (g_meth (g_var rfl) (s_cons (g_call (s_cons (g_var rfl) s_nil) ⟨l, _, rfl, .inr rfl, fun x hx => by have := h2 x hx; omega, rfl⟩) s_nil) (by decide +kernel) ⟨n, g, setOf l, rfl, by omega, by rw [setOf_bits h2]; exact bitsOf_lt _ _, rfl⟩).to ?_
    rw [setOf_bits h2, bitsOf_mem, ← h3]
    congr 1
    rw [Bool.eq_iff_iff]
    unfold anL
    rw [List.all_eq_true, List.all_eq_true]
    refine forall_congr' fun a => forall_congr' fun ha2 => ?_
    rw [beq_iff_eq, List.all_eq_true]
    constructor
    · intro h0 b hb
      have h5 : (g a &&& bitsOf n fun x => decide (x ∈ l)).testBit b = false := by rw [h0, Nat.zero_testBit]
      rw [Nat.testBit_and, bitsOf_test, decide_eq_true (h2 b hb), decide_eq_true hb, hO.1] at h5
      simpa using h5
    · intro h0
      apply Nat.eq_of_testBit_eq
      intro b
      rw [Nat.testBit_and, bitsOf_test, Nat.zero_testBit, hO.1]
      by_cases hb : b ∈ l
      · have := h0 b hb
        rw [Bool.not_eq_true'] at this
        rw [this]
        rfl
      · rw [decide_eq_false hb, Bool.and_false, Bool.and_false]
  | _ => cases ha
end
end OF

namespace OF
open PySem PySem.Spec PyProof.Rows L2 Fo
open Evl (ixN_nat)
variable [Nm]
def itemsD : Da → List Da
  | .tup es => es
  | _ => []
def onceB (n : Nat) (ss : List (List Nat)) : Bool := ss.all (fun s => decide (0 < s.length)) && ss.flatten.isPerm (List.range n)
def f_once : List Da → Da → Prop := fun ds d => ∃ ss, ∃ n : Nat, ds = [.tup (ss.map dT), .int (n : Int)] ∧ n ≤ 100 ∧ ss.length ≤ 2000 ∧ ss.flatten.length ≤ 2000 ∧ d = .bl (onceB n ss)
def partB (n : Nat) (c : List Nat → Bool) : Da → Bool
  | .tup es => es.all (fun e => ascB n e && c (pts e)) && onceB n (es.map pts)
  | _ => false
def SeenR (v : Da) : Prop := (∃ T, tyD v = some T) ∧ ∀ es, v = .tup es → es.length ≤ 100 ∧ ∀ e ∈ es, SeenP e ∧ (pts e).length ≤ 20
def f_cpt (C : Addr) : List Da → Da → Prop := fun ds d => ∃ n f R v, ds = [dOrd C n f, v] ∧ n ≤ 100 ∧ OrdR n f R ∧ SeenR v ∧ d = .bl (partB n (chL R) v)
def f_apt (C : Addr) : List Da → Da → Prop := fun ds d => ∃ n f R v, ds = [dOrd C n f, v] ∧ n ≤ 100 ∧ OrdR n f R ∧ SeenR v ∧ d = .bl (partB n (anL R) v)
def fitB (R : Rel) (s : List Nat) (b : Bool) : Bool := s.all fun x => s.all fun y => decide (x = y) || ((R x y || R y x) == b)
def f_lfits : List Da → Da → Prop := fun ds d => ∃ n R s b, ds = [dTab n R, dT s, .bl b] ∧ (∀ x ∈ s, x < n) ∧ d = .bl (fitB R s b)
theorem sort_ex (l : List Nat) : ∃ l2 : List Nat, l2.Perm l ∧ (l2.map fun x : Nat => (x : Int)).Pairwise (· ≤ ·) := by
  refine ⟨l.mergeSort (fun a b => decide (a ≤ b)), List.mergeSort_perm _ _, ?_⟩
  rw [List.pairwise_map]
  have := List.pairwise_mergeSort (le := fun a b : Nat => decide (a ≤ b)) (fun a b c h1 h2 => by
    have := of_decide_eq_true h1
    have := of_decide_eq_true h2
    exact decide_eq_true (by omega)) (fun a b => by
    by_cases h : a ≤ b
    · simp [h]
    · simp [show b ≤ a by omega]) l
  exact this.imp fun {a b} h => by
    have := of_decide_eq_true h
    show (a : Int) ≤ (b : Int)
    omega
theorem map_cast_inj {l m : List Nat} (h : (l.map fun x : Nat => (x : Int)) = m.map fun x : Nat => (x : Int)) : l = m := by
  have := congrArg (List.map Int.toNat) h
  rw [List.map_map, List.map_map] at this
  have e3 : (Int.toNat ∘ fun x : Nat => (x : Int)) = id := by
    funext x
    exact Int.toNat_natCast x
  rw [e3, List.map_id, List.map_id] at this
  exact this
theorem flat_dT : ∀ ss : List (List Nat), out2 (ss.map dT) (fun _ => true) itemsD (fun _ _ => true) (fun _ y => y) = dNs ss.flatten
  | [] => rfl
  | s :: ss => by
    have ih := flat_dT ss
    unfold out2 at ih ⊢
    rw [filter_tt] at ih ⊢
    rw [List.map_cons, List.flatMap_cons, ih, List.flatten_cons]
    show ((dNs s).filter fun _ => true).map (fun y => y) ++ _ = _
    rw [filter_tt, List.map_id']
    unfold dNs
    rw [List.map_append]
theorem asc_eq {n : Nat} {e : Da} (h : ascB n e = true) : e = dT (pts e) ∧ (∀ x ∈ pts e, x < n) ∧ ascL n (pts e) = true := by
  cases e with
  | tup es =>
    have h : (es.all (isPt (n : Int)) && ascL n (es.map nat)) = true := h
    rw [Bool.and_eq_true] at h
    obtain ⟨h1, h2⟩ := pts_int h.1
    exact ⟨congrArg Da.tup h1, h2, h.2⟩
  | _ => cases h
section
variable {P : Program} {w : World} {K : PySem.W.Frag} {mg : Str → Option Value} {base : Heap} {f C CM CR : Addr} {fd : FuncData}
theorem ok_once (F : Fun K "has_each_once" "has_each_once" s_has_each_once f fd) (z_all : mg "all" = none) (z_len : mg "len" = none) (z_sorted : mg "sorted" = none) (z_list : mg "list" = none) (z_range : mg "range" = none) : FnOk P w K mg base CX0 1 f fd ["parting", "n"] (Pu K f_once) := by
  refine F.ok sc_has_each_once (pu_len fun ds d ⟨ss, n, e, _⟩ => by rw [e]; rfl) (fun cdv A outer s H vs Q E hr h => ?_)
  obtain ⟨B, ds, d, e, ra, ⟨ss, n, rfl, hn, hss, hfl, rfl⟩, k⟩ := h
  obtain ⟨x, u, rfl, r1, r2⟩ := rpa2 ra
  -- slots: 0:parting 1:n 2:points 3:item 4:x
  refine ⟨_, (pss_cons (ps_setLc2 (i := 2) (own := [("item", 3), ("x", 4)]) (vs1 := [4]) (g := gName 3) (g1 := gName 4) (tt := tYes) (tt1 := tYes) (wi1 := iTup K (tVar 3)) (te := tVar 4) rfl sc_has_each_once.nd rfl rfl (sw_true rfl rfl rfl (by decide +kernel)) (pi_tup (pv 0)) (blkOk_by (N := N_has_each_once) (sc := defScope s_has_each_once) (by decide +kernel)) (by decide) (fun _ _ _ _ _ => pg_name (i := 3) sc_has_each_once.nd rfl (by first | exact .inl rfl | exact .inr rfl)) (fun _ _ _ _ _ => pts_nil) (fun _ _ _ _ _ => pi_tup (pv 3)) (fun _ _ _ _ _ => pg_name (i := 4) sc_has_each_once.nd rfl (by first | exact .inl rfl | exact .inr rfl)) (fun _ _ _ _ _ => pts_nil) (fun _ _ _ _ _ => pv 4))
    (pss_one (ps_ret (pe_and (pe_callB (cr_all rfl) (by rfl) z_all (by decide +kernel) (pa_cons (pe_lc (own := [("item", 3)]) (g := gName 3) (tt := tYes) (te := tOp (rI0 fun i j => .bl (decide (i > j))) (tCB (rLenQ K) (tCons (tVar 3) tNil)) (tC (.int 0))) rfl sc_has_each_once.nd (pi_tup (pv 0)) (blkOk_by (N := N_has_each_once) (sc := defScope s_has_each_once) (by decide +kernel)) (fun _ _ _ _ _ => pg_name (i := 3) sc_has_each_once.nd rfl (by first | exact .inl rfl | exact .inr rfl)) (fun _ _ _ _ _ => pts_nil) (fun _ _ _ _ _ => pe_cmpR op_gt (pe_callB call_len_seq (by rfl) z_len PySem.boot_len (pa_cons (pv 3) pa_nil)) pe_int (nomark _))) pa_nil)) (pe_one (pe_cmpR (op_eqD hr.units) (pe_callB cr_sortedLT (by rfl) z_sorted (by decide +kernel) (pa_cons (pv 2) pa_nil)) (pe_listRg rfl (by rfl) z_list (prg_1 (by rfl) z_range (pv 1))) (nomark _))))))), ?_⟩
  have hs : Sl K B [some (.tup (ss.map dT)), some (.int (n : Int)), none, none, none] [some x, some u, none, none, none] := ⟨⟨_, rfl, r1⟩, ⟨_, rfl, r2⟩, trivial, trivial, trivial, trivial⟩
  refine bodyP ?_ hs e k
  refine p_seq (p_asg (d := .lst (dNs ss.flatten)) ((g_lc2 (vs := [3, 4]) (vs1 := [4]) (fun _ => true) itemsD (fun _ _ => true) (fun _ y => y) (i_tup (ds := ss.map dT) (g_var rfl)) (by rw [flat_dT, dNs_len]; omega) (t2_name (fun σ x => wipe_back (by decide)) (fun σ x => wipe_back (by decide)) fun d hd => ⟨b_yes, fun _ => ?_⟩)).to (by rw [flat_dT])) (by simp) ?_)
  · obtain ⟨s, hs, rfl⟩ := List.mem_map.mp hd
    exact ⟨i_tup (g_var rfl), fun d1 _ => ⟨b_yes, fun _ => g_var rfl⟩⟩
  obtain ⟨l2, h1, h2⟩ := sort_ex ss.flatten
  refine p_ret (g_and ((g_cb (s_cons ((g_lcA dT (fun _ => true) (fun s => .bl (decide (0 < s.length))) (i_tup (ds := ss.map dT) (g_var rfl)) (by omega) (by exact List.mem_singleton.mpr rfl) fun s _ => ⟨b_yes, fun _ => (g_IB (f := fun i j => decide (i > j)) (g_cb (s_cons (d := dT s) (g_var rfl) s_nil) c_lenT) g_int).to ?_⟩).to (d2 := .lst ((ss.map fun s => decide (0 < s.length)).map Da.bl)) (by rw [filter_tt, List.map_map]; rfl)) s_nil) c_all).to (by rw [List.all_map]; rfl)) fun _ => (g_eqD (k := 1) (by decide) (g_cb (s_cons (g_var rfl) s_nil) (c_sorted (ns := ss.flatten.map fun x : Nat => (x : Int)) (ms := l2.map fun x : Nat => (x : Int)) (.inl (by rw [dNs_ints])) (h1.map _) h2)) (g_lstRg (g_var rfl) (by omega)) (by rw [← dNs_ints]; exact dep_lNs _) (by exact dep_lNs _)).to (d2 := .bl (ss.flatten.isPerm (List.range n))) ?_) rfl
  · rw [dNs_len]
    congr 1
    exact decide_eq_decide.mpr (by omega)
  · congr 1
    show PyData.eqv (.list (toPs _)) (.list (toPs (dNs (List.range n)))) = _
    rw [PyData.eqv, dNs_ints, eqv_ns, Bool.eq_iff_iff, decide_eq_true_iff, List.isPerm_iff]
    constructor
    · intro z
      rw [map_cast_inj z] at h1
      exact h1.symm
    · intro z
      exact sorted_eq ((h1.trans z).map _) h2 (range_sorted n)
theorem ok_lfits (F : Fun K "_law_fits" "_law_fits" s_law_fits f fd) : FnOk P w K mg base CX0 1 f fd ["table", "points", "related"] (Pu K f_lfits) := by
  refine F.ok sc_law_fits (pu_len fun ds d ⟨n, R, s, b, e, _⟩ => by rw [e]; rfl) (fun cdv A outer s H vs Q E hr h => ?_)
  obtain ⟨B, ds, d, e, ra, ⟨n, R, s, b, rfl, hsn, rfl⟩, k⟩ := h
  obtain ⟨u, v, z, rfl, r1, r2, r3⟩ := rpa3 ra
  -- slots: 0:table 1:points 2:related 3:x 4:y
  refine ⟨_, (pss_cons (ps_for PassesOwn.never rfl (pi_tup (pv 1)) (pg_name (i := 3) sc_law_fits.nd rfl (by first | exact .inl rfl | exact .inr rfl)) (pss_one (ps_for PassesOwn.never rfl (pi_tup (pv 1)) (pg_name (i := 4) sc_law_fits.nd rfl (by first | exact .inl rfl | exact .inr rfl)) (pss_one (ps_if ((pw_and (pt_cmpR op_ne (pv 3) (pv 4) (nomark _)) (pw_and1 (pt_cmpR op_ne (pe_or (pe_ix ix_list (pe_ix ix_list (pv 0) (pv 3) (fun _ _ => rfl)) (pv 4) (fun _ _ => rfl)) (pe_one (pe_ix ix_list (pe_ix ix_list (pv 0) (pv 4) (fun _ _ => rfl)) (pv 3) (fun _ _ => rfl)))) (pv 2) (nomark _)))).pt) (pss_one (ps_ret pe_bl)) pss_nil)))))
    (pss_one (ps_ret pe_bl))), ?_⟩
  have hs : Sl K B [some (dTab n R), some (dT s), some (.bl b), none, none] [some u, some v, some z, none, none] := ⟨⟨_, rfl, r1⟩, ⟨_, rfl, r2⟩, ⟨_, rfl, r3⟩, trivial, trivial, trivial⟩
  refine bodyP ?_ hs e k
  have hfit : (∀ x ∈ s, ∀ y ∈ s, (decide (x = y) || ((R x y || R y x) == b)) = true) → fitB R s b = true := fun h => by
    unfold fitB
    rw [List.all_eq_true]
    intro x hx
    rw [List.all_eq_true]
    exact h x hx
  refine p_seq (p_for (i_tup (ds := dNs s) (g_var rfl)) (fun i Γ1 M1 => ∃ y2 y3 : Option Da, Γ1 = [some (dTab n R), some (dT s), some (.bl b), y2, y3] ∧ M1 = [] ∧ ∀ x ∈ s.take i, ∀ y ∈ s, (decide (x = y) || ((R x y || R y x) == b)) = true) ⟨none, none, rfl, rfl, fun x hx => by cases hx⟩ (fun i Γ1 M1 ⟨_, _, _, e2, _⟩ m hm => by subst e2; cases hm) (fun i d Γ1 M1 hd ⟨y2, y3, e1, e2, hx⟩ => ?_) (fun Γ1 M1 ⟨y2, y3, e1, e2, hx⟩ => ?_))
  · subst e1
    subst e2
    obtain ⟨x, hxs, rfl⟩ := dNs_at hd
    have hxm := List.mem_of_getElem? hxs
    refine p_for (i_tup (ds := dNs s) (g_var rfl)) (fun j Γ1 M1 => ∃ y3 : Option Da, Γ1 = [some (dTab n R), some (dT s), some (.bl b), some (.int (x : Int)), y3] ∧ M1 = [] ∧ ∀ y ∈ s.take j, (decide (x = y) || ((R x y || R y x) == b)) = true) ⟨y3, rfl, rfl, fun y hy => by cases hy⟩ (fun i Γ1 M1 ⟨_, _, e2, _⟩ m hm => by subst e2; cases hm) (fun j d Γ1 M1 hd ⟨y3, e1, e2, hy⟩ => ?_) (fun Γ1 M1 ⟨y3, e1, e2, hy⟩ => ?_)
    · subst e1
      subst e2
      obtain ⟨y, hys, rfl⟩ := dNs_at hd
      have hym := List.mem_of_getElem? hys
      refine p_if (b_and (b_test (g_neI (g_var rfl) (g_var rfl))) fun _ => b_test (g_neB (g_or (dTab_ix (g_var rfl) (g_var rfl) (g_var rfl) (hsn x hxm) (hsn y hym)) fun _ => dTab_ix (g_var rfl) (g_var rfl) (g_var rfl) (hsn y hym) (hsn x hxm)) (g_var rfl))) (fun hb => p_ret g_bl ?_) (fun hb => p_next ⟨_, rfl, rfl, fun z hz => ?_⟩)
      · rw [Bool.and_eq_true, Bool.not_eq_true', Bool.not_eq_true', decide_eq_false_iff_not] at hb
        have : fitB R s b = false := by
          cases e3 : fitB R s b with
          | false => rfl
          | true =>
            unfold fitB at e3
            have := List.all_eq_true.mp (List.all_eq_true.mp e3 x hxm) y hym
            rw [hb.2, decide_eq_false (by omega)] at this
            cases this
        rw [this]
        rfl
      · obtain ⟨hlt, e3⟩ := List.getElem?_eq_some_iff.mp hys
        rw [take_snoc hlt, e3] at hz
        rcases List.mem_append.mp hz with hz | hz
        · exact hy z hz
        · rw [List.mem_singleton.mp hz]
          by_cases h1 : x = y
          · rw [decide_eq_true h1]
            rfl
          · rw [decide_eq_false (by omega : ¬ (x : Int) = (y : Int))] at hb
            rw [decide_eq_false h1]
            simpa using hb
    · subst e1
      subst e2
      rw [dNs_len, List.take_length] at hy
      refine ⟨_, _, rfl, rfl, fun z hz => ?_⟩
      obtain ⟨hlt, e3⟩ := List.getElem?_eq_some_iff.mp hxs
      rw [take_snoc hlt, e3] at hz
      rcases List.mem_append.mp hz with hz | hz
      · exact hx z hz
      · rw [List.mem_singleton.mp hz]
        exact hy
  · subst e1
    subst e2
    rw [dNs_len, List.take_length] at hx
    refine p_ret g_bl ?_
    rw [hfit hx]
theorem ok_cpt (T : OrdC K C) (F : Fun K "is_chain_parting" "is_chain_parting" s_is_chain_parting f fd) (c_is_chain : Cal P w K mg base CX0 5 "is_chain" ["order", "points"] (Pu K (f_cch C))) (c_has_each_once : Cal P w K mg base CX0 1 "has_each_once" ["parting", "n"] (Pu K f_once)) (z_isinstance : mg "isinstance" = none) (z_tuple : mg "tuple" = none) (z_all : mg "all" = none) : FnOk P w K mg base CX0 6 f fd ["order", "parting"] (Pu K (f_cpt C)) := by
  refine F.ok sc_is_chain_parting (pu_len fun ds d ⟨n, g, R, v, e, _⟩ => by rw [e]; rfl) (fun cdv A outer s H vs Q E hr h => ?_)
  obtain ⟨B, ds, d, e, ra, ⟨n, g, R, v, rfl, hn, hO, ⟨⟨Ty, hT⟩, hv⟩, rfl⟩, k⟩ := h
  obtain ⟨x, u, rfl, r1, r2⟩ := rpa2 ra
  -- slots: 0:order 1:parting 2:item
  refine ⟨_, (pss_cons (ps_if ((pw_or (pt_not (pt_val (pe_callB call_isi (by rfl) z_isinstance (by decide +kernel) (pa_cons (pv 1) (pa_cons (pe_bltn (v := .ty "tuple") (by rfl) z_tuple (by decide +kernel) rfl) pa_nil))))) (pw_or1 (pt_not (pt_val (pe_callB (cr_all rfl) (by rfl) z_all (by decide +kernel) (pa_cons (pe_lc (own := [("item", 2)]) (g := gName 2) (tt := tYes) (te := tCall (Pu K (f_cch C)) [] E0 (tCons (tVar 0) (tCons (tVar 2) tNil))) rfl sc_is_chain_parting.nd (pi_tup (pv 1)) (blkOk_by (N := N_is_chain_parting) (sc := defScope s_is_chain_parting) (by decide +kernel)) (fun _ _ _ _ _ => pg_name (i := 2) sc_is_chain_parting.nd rfl (by first | exact .inl rfl | exact .inr rfl)) (fun _ _ _ _ _ => pts_nil) (fun _ _ _ _ _ => pe_cal c_is_chain (hr.mono (by decide)) pass0 (pa_cons (pv 0) (pa_cons (pv 2) pa_nil)))) pa_nil)))))).pt) (pss_one (ps_ret pe_bl)) pss_nil)
    (pss_one (ps_ret (pe_cal c_has_each_once (hr.mono (by decide)) pass0 (pa_cons (pv 1) (pa_cons (pe_fld (pv 0) rfl) pa_nil)))))), ?_⟩
  have hs : Sl K B [some (dOrd C n g), some v, none] [some x, some u, none] := ⟨⟨_, rfl, r1⟩, ⟨_, rfl, r2⟩, trivial, trivial⟩
  refine bodyP ?_ hs e k
  by_cases htup : daTup v = true
  · obtain ⟨es, rfl⟩ : ∃ es, v = .tup es := by
      cases v with
      | tup es => exact ⟨es, rfl⟩
      | _ => cases htup
    obtain ⟨hlen, hes⟩ := hv es rfl
    have gall : EvG K [some (dOrd C n g), some (.tup es), none] (tCB (rAll K) (tCons (tLc (iTup K (tVar 1)) (gName 2) tYes (tCall (Pu K (f_cch C)) [] E0 (tCons (tVar 0) (tCons (tVar 2) tNil))) [2]) tNil)) (.bl (es.all fun e => ascB n e && chL R (pts e))) := by
      refine (g_cb (s_cons ((g_lc (vs := [2]) (fun _ => true) (fun e => .bl (ascB n e && chL R (pts e))) (i_tup (ds := es) (g_var rfl)) (by omega) (t_name (fun σ x => wipe_back (by decide)) fun e he => ⟨b_yes, fun _ => g_call (s_cons (g_var rfl) (s_cons (g_var rfl) s_nil)) ⟨n, g, R, e, rfl, hn, hO, (hes e he).1, rfl⟩⟩)).to (d2 := .lst ((es.map fun e => ascB n e && chL R (pts e)).map Da.bl)) (by rw [filter_tt, List.map_map]; rfl)) s_nil) c_all).to (by rw [List.all_map]; rfl)
    refine p_seq (p_if (b_or (b_not (b_B (g_isi (g_var rfl) hT (kit_tuple hT)))) fun _ => b_not (b_B gall)) (fun hb => p_ret g_bl ?_) (fun hb => p_next ?_))
    · have : (es.all fun e => ascB n e && chL R (pts e)) = false := by
        cases e2 : es.all (fun e => ascB n e && chL R (pts e)) with
        | false => rfl
        | true =>
          rw [e2] at hb
          cases hb
      show Ou.rt (.bl false) [] = Ou.rt (.bl ((es.all fun e => ascB n e && chL R (pts e)) && _)) []
      rw [this]
      rfl
    · have hall : (es.all fun e => ascB n e && chL R (pts e)) = true := by
        cases e2 : es.all (fun e => ascB n e && chL R (pts e)) with
        | true => rfl
        | false =>
          rw [e2] at hb
          cases hb
      have he : es = (es.map pts).map dT := by
        rw [List.map_map]
        symm
        rw [← List.map_id es, List.map_map]
        refine List.map_congr_left fun e he => ?_
        have := List.all_eq_true.mp hall e he
        rw [Bool.and_eq_true] at this
        exact (asc_eq this.1).1.symm
      have hfl : (es.map pts).flatten.length ≤ 2000 := by
        have key : ∀ l : List Da, (∀ e ∈ l, (pts e).length ≤ 20) → (l.map pts).flatten.length ≤ l.length * 20 := fun l => by
          induction l with
          | nil => exact fun _ => Nat.le_refl _
          | cons a l ih =>
            intro h
            have h1 := h a (by simp)
            have h2 := ih fun e he => h e (List.mem_cons_of_mem _ he)
            rw [List.map_cons, List.flatten_cons, List.length_append, List.length_cons]
            omega
        have := key es fun e he => (hes e he).2
        omega
      refine p_ret ((g_call (s_cons ((g_var rfl).to (congrArg Da.tup he)) (s_cons (g_fld (g_var rfl) T.cl T.nN (look_n _ _)) s_nil)) ⟨es.map pts, n, rfl, hn, by rw [List.length_map]; omega, hfl, rfl⟩).to ?_) rfl
      show Da.bl (onceB n (es.map pts)) = .bl ((es.all fun e => ascB n e && chL R (pts e)) && onceB n (es.map pts))
      rw [hall]
      rfl
  · have hf : daTup v = false := by simpa using htup
    refine p_seq (p_yes ((b_or (b := false) (b_not (b_B (g_isi (g_var rfl) hT (kit_tuple hT)))) fun h => by rw [hf] at h; cases h).to (by rw [hf]; rfl)) (p_ret g_bl ?_))
    cases v with
    | tup es => cases hf
    | _ => rfl
theorem ok_apt (T : OrdC K C) (F : Fun K "is_antichain_parting" "is_antichain_parting" s_is_antichain_parting f fd) (c_is_antichain : Cal P w K mg base CX0 4 "is_antichain" ["order", "points"] (Pu K (f_can C))) (c_has_each_once : Cal P w K mg base CX0 1 "has_each_once" ["parting", "n"] (Pu K f_once)) (z_isinstance : mg "isinstance" = none) (z_tuple : mg "tuple" = none) (z_all : mg "all" = none) : FnOk P w K mg base CX0 5 f fd ["order", "parting"] (Pu K (f_apt C)) := by
  refine F.ok sc_is_antichain_parting (pu_len fun ds d ⟨n, g, R, v, e, _⟩ => by rw [e]; rfl) (fun cdv A outer s H vs Q E hr h => ?_)
  obtain ⟨B, ds, d, e, ra, ⟨n, g, R, v, rfl, hn, hO, ⟨⟨Ty, hT⟩, hv⟩, rfl⟩, k⟩ := h
  obtain ⟨x, u, rfl, r1, r2⟩ := rpa2 ra
  -- slots: 0:order 1:parting 2:item
  refine ⟨_, (pss_cons (ps_if ((pw_or (pt_not (pt_val (pe_callB call_isi (by rfl) z_isinstance (by decide +kernel) (pa_cons (pv 1) (pa_cons (pe_bltn (v := .ty "tuple") (by rfl) z_tuple (by decide +kernel) rfl) pa_nil))))) (pw_or1 (pt_not (pt_val (pe_callB (cr_all rfl) (by rfl) z_all (by decide +kernel) (pa_cons (pe_lc (own := [("item", 2)]) (g := gName 2) (tt := tYes) (te := tCall (Pu K (f_can C)) [] E0 (tCons (tVar 0) (tCons (tVar 2) tNil))) rfl sc_is_antichain_parting.nd (pi_tup (pv 1)) (blkOk_by (N := N_is_antichain_parting) (sc := defScope s_is_antichain_parting) (by decide +kernel)) (fun _ _ _ _ _ => pg_name (i := 2) sc_is_antichain_parting.nd rfl (by first | exact .inl rfl | exact .inr rfl)) (fun _ _ _ _ _ => pts_nil) (fun _ _ _ _ _ => pe_cal c_is_antichain (hr.mono (by decide)) pass0 (pa_cons (pv 0) (pa_cons (pv 2) pa_nil)))) pa_nil)))))).pt) (pss_one (ps_ret pe_bl)) pss_nil)
    (pss_one (ps_ret (pe_cal c_has_each_once (hr.mono (by decide)) pass0 (pa_cons (pv 1) (pa_cons (pe_fld (pv 0) rfl) pa_nil)))))), ?_⟩
  have hs : Sl K B [some (dOrd C n g), some v, none] [some x, some u, none] := ⟨⟨_, rfl, r1⟩, ⟨_, rfl, r2⟩, trivial, trivial⟩
  refine bodyP ?_ hs e k
  by_cases htup : daTup v = true
  · obtain ⟨es, rfl⟩ : ∃ es, v = .tup es := by
      cases v with
      | tup es => exact ⟨es, rfl⟩
      | _ => cases htup
    obtain ⟨hlen, hes⟩ := hv es rfl
    have gall : EvG K [some (dOrd C n g), some (.tup es), none] (tCB (rAll K) (tCons (tLc (iTup K (tVar 1)) (gName 2) tYes (tCall (Pu K (f_can C)) [] E0 (tCons (tVar 0) (tCons (tVar 2) tNil))) [2]) tNil)) (.bl (es.all fun e => ascB n e && anL R (pts e))) := by
      refine (g_cb (s_cons ((g_lc (vs := [2]) (fun _ => true) (fun e => .bl (ascB n e && anL R (pts e))) (i_tup (ds := es) (g_var rfl)) (by omega) (t_name (fun σ x => wipe_back (by decide)) fun e he => ⟨b_yes, fun _ => g_call (s_cons (g_var rfl) (s_cons (g_var rfl) s_nil)) ⟨n, g, R, e, rfl, hn, hO, (hes e he).1, rfl⟩⟩)).to (d2 := .lst ((es.map fun e => ascB n e && anL R (pts e)).map Da.bl)) (by rw [filter_tt, List.map_map]; rfl)) s_nil) c_all).to (by rw [List.all_map]; rfl)
    refine p_seq (p_if (b_or (b_not (b_B (g_isi (g_var rfl) hT (kit_tuple hT)))) fun _ => b_not (b_B gall)) (fun hb => p_ret g_bl ?_) (fun hb => p_next ?_))
    · have : (es.all fun e => ascB n e && anL R (pts e)) = false := by
        cases e2 : es.all (fun e => ascB n e && anL R (pts e)) with
        | false => rfl
        | true =>
          rw [e2] at hb
          cases hb
      show Ou.rt (.bl false) [] = Ou.rt (.bl ((es.all fun e => ascB n e && anL R (pts e)) && _)) []
      rw [this]
      rfl
    · have hall : (es.all fun e => ascB n e && anL R (pts e)) = true := by
        cases e2 : es.all (fun e => ascB n e && anL R (pts e)) with
        | true => rfl
        | false =>
          rw [e2] at hb
          cases hb
      have he : es = (es.map pts).map dT := by
        rw [List.map_map]
        symm
        rw [← List.map_id es, List.map_map]
        refine List.map_congr_left fun e he => ?_
        have := List.all_eq_true.mp hall e he
        rw [Bool.and_eq_true] at this
        exact (asc_eq this.1).1.symm
      have hfl : (es.map pts).flatten.length ≤ 2000 := by
        have key : ∀ l : List Da, (∀ e ∈ l, (pts e).length ≤ 20) → (l.map pts).flatten.length ≤ l.length * 20 := fun l => by
          induction l with
          | nil => exact fun _ => Nat.le_refl _
          | cons a l ih =>
            intro h
            have h1 := h a (by simp)
            have h2 := ih fun e he => h e (List.mem_cons_of_mem _ he)
            rw [List.map_cons, List.flatten_cons, List.length_append, List.length_cons]
            omega
        have := key es fun e he => (hes e he).2
        omega
      refine p_ret ((g_call (s_cons ((g_var rfl).to (congrArg Da.tup he)) (s_cons (g_fld (g_var rfl) T.cl T.nN (look_n _ _)) s_nil)) ⟨es.map pts, n, rfl, hn, by rw [List.length_map]; omega, hfl, rfl⟩).to ?_) rfl
      show Da.bl (onceB n (es.map pts)) = .bl ((es.all fun e => ascB n e && anL R (pts e)) && onceB n (es.map pts))
      rw [hall]
      rfl
  · have hf : daTup v = false := by simpa using htup
    refine p_seq (p_yes ((b_or (b := false) (b_not (b_B (g_isi (g_var rfl) hT (kit_tuple hT)))) fun h => by rw [hf] at h; cases h).to (by rw [hf]; rfl)) (p_ret g_bl ?_))
    cases v with
    | tup es => cases hf
    | _ => rfl
end
end OF

namespace OF
open PySem PySem.Spec PyProof.Rows L2 Fo HandS.TR
open Evl (ixN_nat)
variable [Nm]
/-! ### partings -/
theorem once_iff {n : Nat} {ss : List (List Nat)} : onceB n ss = true ↔ (∀ s ∈ ss, 0 < s.length) ∧ ss.flatten.Perm (List.range n) := by
  unfold onceB
  rw [Bool.and_eq_true, List.all_eq_true, List.isPerm_iff]
  refine and_congr_left fun _ => forall_congr' fun s => forall_congr' fun _ => ?_
  exact decide_eq_true_iff
theorem once_len {n : Nat} {ss : List (List Nat)} (h : onceB n ss = true) : ss.flatten.length = n := by
  rw [(once_iff.mp h).2.length_eq, List.length_range]
def partF (n : Nat) (L : Nat → Nat) (k : Nat) : List Nat := (List.range n).filter fun x => decide (L x = k)
def partsF (n : Nat) (L : Nat → Nat) (i : Nat) : List (List Nat) := ((List.range i).map (partF n L)).filter fun s => decide (0 < s.length)
theorem partsF_succ (n : Nat) (L : Nat → Nat) (i : Nat) : partsF n L (i + 1) = partsF n L i ++ (if 0 < (partF n L i).length then [partF n L i] else []) := by
  unfold partsF
  rw [List.range_succ, List.map_append, List.filter_append]
  congr 1
  by_cases h : 0 < (partF n L i).length
  · rw [if_pos h]
    exact List.filter_cons_of_pos (decide_eq_true h)
  · rw [if_neg h]
    exact List.filter_cons_of_neg (by simpa using h)
theorem partsF_len (n : Nat) (L : Nat → Nat) (i : Nat) : (partsF n L i).length ≤ i := by
  have := List.length_filter_le (fun s : List Nat => decide (0 < s.length)) ((List.range i).map (partF n L))
  rw [List.length_map, List.length_range] at this
  exact this
theorem partsF_mem {n : Nat} {L : Nat → Nat} {i : Nat} {s : List Nat} (h : s ∈ partsF n L i) : (∃ p : Nat → Bool, s = (List.range n).filter p) ∧ 0 < s.length := by
  obtain ⟨h1, h2⟩ := List.mem_filter.mp h
  obtain ⟨k, _, rfl⟩ := List.mem_map.mp h1
  exact ⟨⟨_, rfl⟩, of_decide_eq_true h2⟩
theorem flat_ne : ∀ ss : List (List Nat), (ss.filter fun s => decide (0 < s.length)).flatten = ss.flatten
  | [] => rfl
  | s :: ss => by
    have ih := flat_ne ss
    cases s with
    | nil => exact ih
    | cons a s =>
      show (a :: s) ++ _ = _
      rw [ih]
      rfl
theorem parts_perm {n : Nat} {L : Nat → Nat} (h : ∀ x, x < n → L x < 3) : (partsF n L 3).flatten.Perm (List.range n) := by
  unfold partsF
  rw [flat_ne]
  show (partF n L 0 ++ (partF n L 1 ++ (partF n L 2 ++ []))).Perm _
  rw [List.append_nil, List.perm_iff_count]
  intro a
  have c : ∀ k, List.count a (partF n L k) = if L a = k then List.count a (List.range n) else 0 := fun k => by
    unfold partF
    by_cases e : L a = k
    · rw [if_pos e]
      exact List.count_filter (p := fun x => decide (L x = k)) (by simpa using e)
    · rw [if_neg e]
      exact List.count_eq_zero.mpr fun z => e (of_decide_eq_true (List.mem_filter.mp z).2)
  rw [List.count_append, List.count_append, c, c, c]
  by_cases ha : a < n
  · have := h a ha
    rcases (by omega : L a = 0 ∨ L a = 1 ∨ L a = 2) with e | e | e <;> simp [e]
  · have : List.count a (List.range n) = 0 := List.count_eq_zero.mpr (by simpa using ha)
    simp [this]
theorem once_parts {n : Nat} {L : Nat → Nat} (h : ∀ x, x < n → L x < 3) : onceB n (partsF n L 3) = true := once_iff.mpr ⟨fun s hs => (partsF_mem hs).2, parts_perm h⟩
theorem map_pts (ss : List (List Nat)) : (ss.map dT).map pts = ss := by
  rw [List.map_map]
  have : pts ∘ dT = id := by
    funext l
    exact pts_dT l
  rw [this, List.map_id]
theorem fit_ch {R : Rel} {s : List Nat} : fitB R s true = chL R s := by
  unfold fitB chL
  congr 1
  funext x
  congr 1
  funext y
  simp
theorem fit_an {R : Rel} {s : List Nat} (hi : ∀ x, R x x = false) : fitB R s false = anL R s := by
  unfold fitB anL
  rw [Bool.eq_iff_iff, List.all_eq_true, List.all_eq_true]
  constructor
  · intro h x hx
    rw [List.all_eq_true]
    intro y hy
    have := List.all_eq_true.mp (h x hx) y hy
    by_cases e : x = y
    · subst e
      rw [hi]
      rfl
    · rw [decide_eq_false e, Bool.false_or] at this
      cases h1 : R x y with
      | false => rfl
      | true =>
        rw [h1] at this
        cases this
  · intro h x hx
    rw [List.all_eq_true]
    intro y hy
    have h1 := List.all_eq_true.mp (h x hx) y hy
    have h2 := List.all_eq_true.mp (h y hy) x hx
    rw [Bool.not_eq_true'] at h1 h2
    rw [h1, h2]
    simp
theorem part_true {n : Nat} {c : List Nat → Bool} {ss : List (List Nat)} (h : onceB n ss = true) (hs : ∀ s ∈ ss, ∃ p : Nat → Bool, s = (List.range n).filter p) : partB n c (.tup (ss.map dT)) = ss.all c := by
  show ((ss.map dT).all (fun e => ascB n e && c (pts e)) && onceB n ((ss.map dT).map pts)) = _
  rw [map_pts, h, Bool.and_true, List.all_map]
  rw [Bool.eq_iff_iff, List.all_eq_true, List.all_eq_true]
  refine forall_congr' fun s => forall_congr' fun hm => ?_
  obtain ⟨p, rfl⟩ := hs s hm
  show (ascB n (dT _) && c (pts (dT _))) = true ↔ _
  rw [asc_dT, pts_dT, Bool.true_and]
theorem none_left {ss : List (List Nat)} {p : List Nat → Bool} : decide ((((ss.filter fun s => !p s).map dT).length : Int) = 0) = ss.all p := by
  rw [List.length_map, Bool.eq_iff_iff, decide_eq_true_iff, List.all_eq_true]
  constructor
  · intro h s hs
    have h0 : (ss.filter fun s => !p s) = [] := List.length_eq_zero_iff.mp (by omega)
    cases e : p s with
    | true => rfl
    | false =>
      have : s ∈ ss.filter fun s => !p s := List.mem_filter.mpr ⟨hs, by rw [e]; rfl⟩
      rw [h0] at this
      cases this
  · intro h
    have h0 : (ss.filter fun s => !p s) = [] := List.filter_eq_nil_iff.mpr fun s hs => by
      rw [h s hs]
      decide
    rw [h0]
    rfl
/-- what no test takes -/
def Bad (n : Nat) (v : Da) : Prop := SeenR v ∧ ∀ c, partB n c v = false
def Itm (e : Da) : Prop := (∃ l, e = dT l ∧ l.length ≤ 20) ∨ ∃ es, e = .lst es
theorem itm_dT {l : List Nat} (h : l.length ≤ 20) : Itm (dT l) := .inl ⟨l, rfl, h⟩
theorem seen_tup {es : List Da} (hl : es.length ≤ 100) (h : ∀ e ∈ es, Itm e) : SeenR (.tup es) := ⟨⟨_, rfl⟩, fun es2 e => by
  injection e with e
  subst e
  refine ⟨hl, fun e he => ?_⟩
  rcases h e he with ⟨l, rfl, hl⟩ | ⟨es, rfl⟩
  · exact ⟨seen_dT l (by omega), by rw [pts_dT]; exact hl⟩
  · exact ⟨⟨⟨_, rfl⟩, fun es2 e => nomatch e⟩, Nat.zero_le _⟩⟩
theorem part_item {n : Nat} {c : List Nat → Bool} {es : List Da} {e : Da} (h : e ∈ es) (ha : ascB n e = false) : partB n c (.tup es) = false := by
  cases hp : partB n c (.tup es) with
  | false => rfl
  | true =>
    have hp : (es.all (fun e => ascB n e && c (pts e)) && onceB n (es.map pts)) = true := hp
    rw [Bool.and_eq_true] at hp
    have := List.all_eq_true.mp hp.1 e h
    rw [ha] at this
    cases this
theorem part_once {n : Nat} {c : List Nat → Bool} {es : List Da} (h : onceB n (es.map pts) = false) : partB n c (.tup es) = false := by
  show (_ && onceB n (es.map pts)) = false
  rw [h, Bool.and_false]
theorem not_once {n : Nat} {ss : List (List Nat)} (h : ss.flatten.length ≠ n ∨ ∃ s ∈ ss, s.length = 0) : onceB n ss = false := by
  cases e : onceB n ss with
  | false => rfl
  | true =>
    rcases h with h | ⟨s, hs, h⟩
    · exact absurd (once_len e) h
    · have := (once_iff.mp e).1 s hs
      omega
theorem asc_pw {n : Nat} {l : List Nat} (h : ascL n l = true) : l.Pairwise (· < ·) := by
  rw [of_decide_eq_true h]
  exact List.pairwise_lt_range.filter _
theorem asc_no {n : Nat} {l : List Nat} (h : ¬ l.Pairwise (· < ·)) : ascB n (dT l) = false := by
  show ((dNs l).all (isPt (n : Int)) && ascL n ((dNs l).map nat)) = false
  rw [nat_dNs]
  cases e : ascL n l with
  | false => rw [Bool.and_false]
  | true => exact absurd (asc_pw e) h
theorem twice_no {a : Nat} {s : List Nat} : ¬ ((a :: s) ++ (a :: s)).Pairwise (· < ·) := fun h => by
  have := (List.pairwise_append.mp h).2.2 a (by simp) a (by simp)
  omega
theorem back_no {s : List Nat} (h : s.Pairwise (· < ·)) (hl : 1 < s.length) : ¬ s.reverse.Pairwise (· < ·) := fun h2 => by
  rw [List.pairwise_reverse] at h2
  cases s with
  | nil => cases hl
  | cons a s =>
    cases s with
    | nil => exact absurd hl (by simp)
    | cons b s =>
      have h3 := (List.pairwise_cons.mp h).1 b (by simp)
      have h4 := (List.pairwise_cons.mp h2).1 b (by simp)
      omega
theorem rev_dNs (l : List Nat) : (dNs l).reverse = dNs l.reverse := by
  unfold dNs
  rw [List.map_reverse]
section
variable {P : Program} {w : World} {K : PySem.W.Frag} {mg : Str → Option Value} {base : Heap} {f C CM CR : Addr} {fd : FuncData}
set_option maxHeartbeats 0 in
theorem ok_law (T : OrdC K C) (F : Fun K "law" "law" s_law f fd) (c_law_numbers : Cal P w K mg base CX0 1 "_law_numbers" ["script"] (spNums K)) (c_law_order : Cal P w K mg base CX0 7 "_law_order" ["numbers", "most"] (PuM K p_lord (q_lord C))) (m_size : CalM P w K mg base CX0 1 C "size" ["self"] (Pu K (f_size C))) (c_law_table : Cal P w K mg base CX0 5 "_law_table" ["order"] (Pu K (f_ltable C)))
    (c_is_chain_parting : Cal P w K mg base CX0 6 "is_chain_parting" ["order", "parting"] (Pu K (f_cpt C))) (c_is_antichain_parting : Cal P w K mg base CX0 5 "is_antichain_parting" ["order", "parting"] (Pu K (f_apt C))) (c_is_chain : Cal P w K mg base CX0 5 "is_chain" ["order", "points"] (Pu K (f_cch C))) (c_is_antichain : Cal P w K mg base CX0 4 "is_antichain" ["order", "points"] (Pu K (f_can C))) (c_law_next : Cal P w K mg base CX0 1 "_law_next" ["numbers", "many"] (PuM K p_lnext q_lnext)) (c_law_fits : Cal P w K mg base CX0 1 "_law_fits" ["table", "points", "related"] (Pu K f_lfits))
    (z_range : mg "range" = none) (z_len : mg "len" = none) (z_tuple : mg "tuple" = none) (z_list : mg "list" = none) : FnOk P w K mg base CX0 8 f fd ["script"] (spLaw K) := by
  refine F.ok sc_law (fun vs H Q E h => ?_) (fun cdv A outer s H vs Q E hr h => ?_)
  · obtain ⟨a, ns, rfl, _⟩ := h
    rfl
  obtain ⟨a, ns, rfl, hS, k⟩ := h
  -- slots: 0:script 1:numbers 2:order 3:n 4:table 5:points 6:x 7:labels 8:parting 9:label 10:part 11:chains 12:antichains 13:bad 14:value
  refine ⟨_, (pss_cons (ps_set (i := 1) sc_law.nd rfl (by first | exact .inl rfl | exact .inr rfl) (pe_cal c_law_numbers (hr.mono (by decide)) pass0 (pa_cons (pv 0) pa_nil)))
    (pss_cons (ps_set (i := 2) sc_law.nd rfl (by first | exact .inl rfl | exact .inr rfl) (pe_cal c_law_order (hr.mono (by decide)) pass0 (pa_cons (pv 1) (pa_cons pe_int pa_nil))))
    (pss_cons (ps_set (i := 3) sc_law.nd rfl (by first | exact .inl rfl | exact .inr rfl) (pe_calm0 (pv 2) T.cl m_size (hr.mono (by decide)) pass0))
    (pss_cons (ps_if (pt_cmpR op_eq (pv 3) pe_int (nomark _)) (pss_one (ps_ret (pe_and (pe_cal c_is_chain_parting (hr.mono (by decide)) pass0 (pa_cons (pv 2) (pa_cons (pe_tup pa_nil) pa_nil))) (pe_and (pe_cal c_is_antichain_parting (hr.mono (by decide)) pass0 (pa_cons (pv 2) (pa_cons (pe_tup pa_nil) pa_nil))) (pe_one (pe_not (pe_cal c_is_chain (hr.mono (by decide)) pass0 (pa_cons (pv 2) (pa_cons (pe_tup (pa_cons pe_int pa_nil)) pa_nil))))))))) pss_nil)
    (pss_cons (ps_set (i := 4) sc_law.nd rfl (by first | exact .inl rfl | exact .inr rfl) (pe_cal c_law_table (hr.mono (by decide)) pass0 (pa_cons (pv 2) pa_nil)))
    (pss_cons (ps_set (i := 5) sc_law.nd rfl (by first | exact .inl rfl | exact .inr rfl) (pe_tupleOf (by rfl) z_tuple (pe_lc (own := [("x", 6)]) (g := gName 6) (tt := tTest (tOp (rEq) (tCall (PuM K p_lnext q_lnext) [] E0 (tCons (tVar 1) (tCons (tC (.int 2)) tNil))) (tC (.int 0)))) (te := tVar 6) rfl sc_law.nd (pi_range1 (by rfl) z_range (pa_cons (pv 3) pa_nil)) (blkOk_by (N := N_law) (sc := defScope s_law) (by decide +kernel)) (fun _ _ _ _ _ => pg_name (i := 6) sc_law.nd rfl (by first | exact .inl rfl | exact .inr rfl)) (fun _ _ _ _ _ => pts_one (pt_cmpR op_eq (pe_cal c_law_next (hr.mono (by decide)) pass0 (pa_cons (pv 1) (pa_cons pe_int pa_nil))) pe_int (nomark _))) (fun _ _ _ _ _ => pv 6))))
    (pss_cons (ps_if (pt_cmpR op_ne (pe_cal c_is_chain (hr.mono (by decide)) pass0 (pa_cons (pv 2) (pa_cons (pv 5) pa_nil))) (pe_cal c_law_fits (hr.mono (by decide)) pass0 (pa_cons (pv 4) (pa_cons (pv 5) (pa_cons pe_bl pa_nil)))) (nomark _)) (pss_one (ps_ret pe_bl)) pss_nil)
    (pss_cons (ps_if (pt_cmpR op_ne (pe_cal c_is_antichain (hr.mono (by decide)) pass0 (pa_cons (pv 2) (pa_cons (pv 5) pa_nil))) (pe_cal c_law_fits (hr.mono (by decide)) pass0 (pa_cons (pv 4) (pa_cons (pv 5) (pa_cons pe_bl pa_nil)))) (nomark _)) (pss_one (ps_ret pe_bl)) pss_nil)
    (pss_cons (ps_set (i := 7) sc_law.nd rfl (by first | exact .inl rfl | exact .inr rfl) (pe_lc (own := [("x", 6)]) (g := gName 6) (tt := tYes) (te := tCall (PuM K p_lnext q_lnext) [] E0 (tCons (tVar 1) (tCons (tC (.int 3)) tNil))) rfl sc_law.nd (pi_range1 (by rfl) z_range (pa_cons (pv 3) pa_nil)) (blkOk_by (N := N_law) (sc := defScope s_law) (by decide +kernel)) (fun _ _ _ _ _ => pg_name (i := 6) sc_law.nd rfl (by first | exact .inl rfl | exact .inr rfl)) (fun _ _ _ _ _ => pts_nil) (fun _ _ _ _ _ => pe_cal c_law_next (hr.mono (by decide)) pass0 (pa_cons (pv 1) (pa_cons pe_int pa_nil)))))
    (pss_cons (ps_set (i := 8) sc_law.nd rfl (by first | exact .inl rfl | exact .inr rfl) (pe_lst pa_nil))
    (pss_cons (ps_for PassesOwn.never rfl (pi_range1 (by rfl) z_range (pa_cons pe_int pa_nil)) (pg_name (i := 9) sc_law.nd rfl (by first | exact .inl rfl | exact .inr rfl)) (pss_cons (ps_set (i := 10) sc_law.nd rfl (by first | exact .inl rfl | exact .inr rfl) (pe_tupleOf (by rfl) z_tuple (pe_lc (own := [("x", 6)]) (g := gName 6) (tt := tTest (tOp (rEq) (tOp (rIxL K) (tVar 7) (tVar 6)) (tVar 9))) (te := tVar 6) rfl sc_law.nd (pi_range1 (by rfl) z_range (pa_cons (pv 3) pa_nil)) (blkOk_by (N := N_law) (sc := defScope s_law) (by decide +kernel)) (fun _ _ _ _ _ => pg_name (i := 6) sc_law.nd rfl (by first | exact .inl rfl | exact .inr rfl)) (fun _ _ _ _ _ => pts_one (pt_cmpR op_eq (pe_ix ix_list (pv 7) (pv 6) (fun _ _ => rfl)) (pv 9) (nomark _))) (fun _ _ _ _ _ => pv 6))))
    (pss_one (ps_if (pt_cmpR op_gt (pe_callB call_len_seq (by rfl) z_len PySem.boot_len (pa_cons (pv 10) pa_nil)) pe_int (nomark _)) (pss_one (ps_expr (pe_bm PySem.F.plainAttrs_list PySem.F.slot_list_append PySem.F.type_list_append mt_append (pv 8) (pa_cons (pv 10) pa_nil)))) pss_nil))))
    (pss_cons (ps_set (i := 11) sc_law.nd rfl (by first | exact .inl rfl | exact .inr rfl) (pe_cmpR op_eq (pe_callB call_len_seq (by rfl) z_len PySem.boot_len (pa_cons (pe_lc (own := [("part", 10)]) (g := gName 10) (tt := tNot (tB (tCall (Pu K f_lfits) [] E0 (tCons (tVar 4) (tCons (tVar 10) (tCons (tC (.bl true)) tNil)))))) (te := tVar 10) rfl sc_law.nd (pi_list (pv 8)) (blkOk_by (N := N_law) (sc := defScope s_law) (by decide +kernel)) (fun _ _ _ _ _ => pg_name (i := 10) sc_law.nd rfl (by first | exact .inl rfl | exact .inr rfl)) (fun _ _ _ _ _ => pts_one (pt_not (pt_val (pe_cal c_law_fits (hr.mono (by decide)) pass0 (pa_cons (pv 4) (pa_cons (pv 10) (pa_cons pe_bl pa_nil))))))) (fun _ _ _ _ _ => pv 10)) pa_nil)) pe_int (nomark _)))
    (pss_cons (ps_set (i := 12) sc_law.nd rfl (by first | exact .inl rfl | exact .inr rfl) (pe_cmpR op_eq (pe_callB call_len_seq (by rfl) z_len PySem.boot_len (pa_cons (pe_lc (own := [("part", 10)]) (g := gName 10) (tt := tNot (tB (tCall (Pu K f_lfits) [] E0 (tCons (tVar 4) (tCons (tVar 10) (tCons (tC (.bl false)) tNil)))))) (te := tVar 10) rfl sc_law.nd (pi_list (pv 8)) (blkOk_by (N := N_law) (sc := defScope s_law) (by decide +kernel)) (fun _ _ _ _ _ => pg_name (i := 10) sc_law.nd rfl (by first | exact .inl rfl | exact .inr rfl)) (fun _ _ _ _ _ => pts_one (pt_not (pt_val (pe_cal c_law_fits (hr.mono (by decide)) pass0 (pa_cons (pv 4) (pa_cons (pv 10) (pa_cons pe_bl pa_nil))))))) (fun _ _ _ _ _ => pv 10)) pa_nil)) pe_int (nomark _)))
    (pss_cons (ps_set (i := 8) sc_law.nd rfl (by first | exact .inl rfl | exact .inr rfl) (pe_tupleOf (by rfl) z_tuple (pv 8)))
    (pss_cons (ps_if ((pw_or (pt_cmpR op_ne (pe_cal c_is_chain_parting (hr.mono (by decide)) pass0 (pa_cons (pv 2) (pa_cons (pv 8) pa_nil))) (pv 11) (nomark _)) (pw_or1 (pt_cmpR op_ne (pe_cal c_is_antichain_parting (hr.mono (by decide)) pass0 (pa_cons (pv 2) (pa_cons (pv 8) pa_nil))) (pv 12) (nomark _)))).pt) (pss_one (ps_ret pe_bl)) pss_nil)
    (pss_cons (ps_set (i := 13) sc_law.nd rfl (by first | exact .inl rfl | exact .inr rfl) (pe_lst (pa_cons (pe_slice sl_tupA (pv 8) (po_some pe_int) po_none) (pa_cons (pe_op op_catA (pv 8) (pe_tup (pa_cons (pe_ix ix_tup (pv 8) pe_int (fun _ _ => rfl)) pa_nil))) (pa_cons (pe_op op_catA (pv 8) (pe_tup (pa_cons (pe_tup pa_nil) pa_nil))) (pa_cons (pe_callTy call_list_of (by rfl) z_list (by decide +kernel) (pa_cons (pv 8) pa_nil)) (pa_cons pe_non (pa_cons (pe_op op_catA (pv 8) (pe_tup (pa_cons (pe_tup (pa_cons (pv 3) pa_nil)) pa_nil))) pa_nil))))))))
    (pss_cons (ps_expr (pe_bm PySem.F.plainAttrs_list PySem.F.slot_list_append PySem.F.type_list_append mt_append (pv 13) (pa_cons (pe_op op_catA (pe_tup (pa_cons (pe_op op_catA (pe_ix ix_tup (pv 8) pe_int (fun _ _ => rfl)) (pe_ix ix_tup (pv 8) pe_int (fun _ _ => rfl))) pa_nil)) (pe_slice sl_tupA (pv 8) (po_some pe_int) po_none)) pa_nil)))
    (pss_cons (ps_expr (pe_bm PySem.F.plainAttrs_list PySem.F.slot_list_append PySem.F.type_list_append mt_append (pv 13) (pa_cons (pe_op op_catA (pe_tup (pa_cons (pe_callTy call_list_of (by rfl) z_list (by decide +kernel) (pa_cons (pe_ix ix_tup (pv 8) pe_int (fun _ _ => rfl)) pa_nil)) pa_nil)) (pe_slice sl_tupA (pv 8) (po_some pe_int) po_none)) pa_nil)))
    (pss_cons (ps_if (pt_cmpR op_gt (pe_callB call_len_seq (by rfl) z_len PySem.boot_len (pa_cons (pe_ix ix_tup (pv 8) pe_int (fun _ _ => rfl)) pa_nil)) pe_int (nomark _)) (pss_one (ps_expr (pe_bm PySem.F.plainAttrs_list PySem.F.slot_list_append PySem.F.type_list_append mt_append (pv 13) (pa_cons (pe_op op_catA (pe_tup (pa_cons (pe_revT (pe_ix ix_tup (pv 8) pe_int (fun _ _ => rfl))) pa_nil)) (pe_slice sl_tupA (pv 8) (po_some pe_int) po_none)) pa_nil)))) pss_nil)
    (pss_cons (ps_for PassesOwn.never rfl (pi_list (pv 13)) (pg_name (i := 14) sc_law.nd rfl (by first | exact .inl rfl | exact .inr rfl)) (pss_one (ps_if ((pw_or (pt_cmpR op_isnot_bl (pe_cal c_is_chain_parting (hr.mono (by decide)) pass0 (pa_cons (pv 2) (pa_cons (pv 14) pa_nil))) pe_bl (nomark _)) (pw_or1 (pt_cmpR op_isnot_bl (pe_cal c_is_antichain_parting (hr.mono (by decide)) pass0 (pa_cons (pv 2) (pa_cons (pv 14) pa_nil))) pe_bl (nomark _)))).pt) (pss_one (ps_ret pe_bl)) pss_nil)))
    (pss_cons (ps_for PassesOwn.never rfl (pi_list (pe_lst (pa_cons pe_non (pa_cons (pe_lst (pa_cons pe_int pa_nil)) (pa_cons (pe_tup (pa_cons (pv 3) pa_nil)) (pa_cons (pe_tup (pa_cons (pe_un un_neg pe_int) pa_nil)) (pa_cons (pe_tup (pa_cons pe_int (pa_cons pe_int pa_nil))) (pa_cons (pe_tup (pa_cons pe_non pa_nil)) (pa_cons (pe_tup (pa_cons pe_bl pa_nil)) pa_nil))))))))) (pg_name (i := 14) sc_law.nd rfl (by first | exact .inl rfl | exact .inr rfl)) (pss_one (ps_if ((pw_or (pt_cmpR op_isnot_bl (pe_cal c_is_chain (hr.mono (by decide)) pass0 (pa_cons (pv 2) (pa_cons (pv 14) pa_nil))) pe_bl (nomark _)) (pw_or1 (pt_cmpR op_isnot_bl (pe_cal c_is_antichain (hr.mono (by decide)) pass0 (pa_cons (pv 2) (pa_cons (pv 14) pa_nil))) pe_bl (nomark _)))).pt) (pss_one (ps_ret pe_bl)) pss_nil)))
    (pss_one (ps_ret pe_bl))))))))))))))))))))))), ?_⟩
  refine ⟨.ref a, rfl, a, ns, rfl, hS, fun p H1 ms hp e1 hSt _ => ?_⟩
  dsimp only
  refine bodyNum (K := K) (H := H) (H1 := H1) (p := p) (Γ := [none, none, none, none, none, none, none, none, none, none, none, none, none, none, none]) ?_ ⟨trivial, trivial, trivial, trivial, trivial, trivial, trivial, trivial, trivial, trivial, trivial, trivial, trivial, trivial, trivial, trivial⟩ hp e1 hSt rfl k
  refine p_seq (p_asgY (P := fun d M' => ∃ (n : Nat) (g : Nat → Nat) (R : Rel) (ms' : List Nat), n ≤ 6 ∧ OrdR n g R ∧ d = dOrd C n g ∧ M' = [(some 1, p, dNs ms')]) (y_order (m := 6) (j := 0) rfl g_int (by decide) fun n g R ms' h1 h2 => ⟨n, g, R, ms', h1, h2, rfl, rfl⟩) fun d M1 ⟨n, g, R, ms', hn, hO, e1, e2⟩ => ?_)
  subst e1
  subst e2
  refine ⟨by simp, ?_⟩
  have hI := hO.2.1
  have hirr := hO.irr
  refine p_seq (p_asg (g_meth (g_var rfl) s_nil (by decide +kernel) ⟨n, g, rfl, rfl⟩) (by simp) ?_)
  have seen0 : SeenR (.tup []) := seen_tup (Nat.zero_le _) fun e he => by cases he
  refine p_seq (p_if (b_test (g_eqI (g_var rfl) g_int)) (fun hb => p_ret ((g_and (g_call (s_cons (g_var rfl) (s_cons (g_tup s_nil (Nat.zero_le _)) s_nil)) ⟨n, g, R, .tup [], rfl, by omega, hO, seen0, rfl⟩) fun _ => g_and (g_call (s_cons (g_var rfl) (s_cons (g_tup s_nil (Nat.zero_le _)) s_nil)) ⟨n, g, R, .tup [], rfl, by omega, hO, seen0, rfl⟩) fun _ => g_not (g_call (s_cons (g_var rfl) (s_cons (g_tup (s_cons g_int s_nil) (by show 1 ≤ 1000000; decide)) s_nil)) ⟨n, g, R, dT [0], rfl, by omega, hO, seen_dT [0] (by decide), rfl⟩)).to (d2 := .bl true) ?_) ⟨_, rfl⟩) (fun hb => p_next ?_))
  · have h0 : (n : Int) = 0 := of_decide_eq_true hb
    have : n = 0 := by omega
    subst this
    rfl
  have hn0 : 0 < n := by
    have : ¬ (n : Int) = 0 := of_decide_eq_false hb
    omega
  refine p_seq (p_asg (g_call (s_cons (g_var rfl) s_nil) ⟨n, g, R, rfl, by omega, hO.1, hI, rfl⟩) (by simp) ?_)
  refine p_seq (p_asgY (P := fun d M' => ∃ (pp : Nat → Bool) (ms : List Nat), d = dT ((List.range n).filter pp) ∧ M' = [(some 1, p, dNs ms)]) (y_tupL (P1 := fun d M' => ∃ (pp : Nat → Bool) (ms : List Nat), d = .lst (dNs ((List.range n).filter pp)) ∧ M' = [(some 1, p, dNs ms)]) (y_lc (P0 := fun ds M' => ds = dNs (List.range n) ∧ ∃ ms : List Nat, M' = [(some 1, p, dNs ms)]) (I := fun ds i acc M' => ∃ (pp : Nat → Bool) (ms : List Nat), acc = dNs ((List.range i).filter pp) ∧ M' = [(some 1, p, dNs ms)]) (yi_of (i_rngN (n := n) (s_cons (g_var rfl) s_nil) (by omega)) ⟨rfl, ms', rfl⟩) (fun ds M1 ⟨e1, ms1, e2⟩ => ⟨by rw [e1, dNs_len, List.length_range]; omega, fun _ => true, ms1, rfl, e2⟩) (by exact List.mem_singleton.mpr rfl) (fun ds i acc M1 ⟨_, _, _, e2⟩ m hm k hk => by
      subst e2
      obtain rfl := List.mem_singleton.mp hm
      obtain rfl := List.mem_singleton.mp hk
      simp) (fun ds i acc M1 ⟨pp, _, e1, _⟩ => by
      rw [e1, dNs_len]
      have := List.length_filter_le pp (List.range i)
      rw [List.length_range] at this
      exact this) (fun H0 ds M0 i d acc M1 ⟨e0, _⟩ hd ⟨pp, ms1, e1, e2⟩ => ?_) (fun ds M0 acc M1 ⟨e0, _⟩ ⟨pp, ms1, e1, e2⟩ => ?_)) fun d M1 ⟨pp, ms1, e1, e2⟩ => ⟨_, e1, pp, ms1, rfl, e2⟩) fun d M1 ⟨pp, ms1, e1, e2⟩ => ?_)
  · subst e0
    subst e1
    subst e2
    obtain ⟨hi, rfl⟩ := i_rngN_at hd
    have up : ∀ b : Bool, dNs ((List.range (i + 1)).filter fun x => if x = i then b else pp x) = dNs ((List.range i).filter pp) ++ (if b = true then [.int (i : Int)] else []) := fun b => by
      rw [List.range_succ, List.filter_append]
      have h1 : ((List.range i).filter fun x => if x = i then b else pp x) = (List.range i).filter pp := List.filter_congr fun x hx => by
        have := List.mem_range.mp hx
        rw [if_neg (by omega)]
      rw [h1]
      unfold dNs
      rw [List.map_append]
      congr 1
      cases b <;> simp
    refine yb_test (y_op (P1 := fun d M' => ∃ (v : Nat) (ms : List Nat), d = .int (v : Int) ∧ M' = [(some 1, p, dNs ms)]) (P2 := fun _ d M' => d = .int 0 ∧ ∃ ms : List Nat, M' = [(some 1, p, dNs ms)]) (y_next (j := 0) (m := 2) rfl g_int (by decide) fun v ms' _ => ⟨v, ms', rfl, rfl⟩) (fun d1 M1 ⟨v, ms', e1, e2⟩ => y_of g_int ⟨rfl, ms', e2⟩) fun d1 M1 d2 M2 ⟨v, ms', e1, e2⟩ ⟨e3, ms2, e4⟩ => ?_)
    subst e1
    subst e3
    refine ⟨_, rg_eqI, _, rfl, ?_⟩
    by_cases hv : (v : Int) = 0
    · rw [if_pos (decide_eq_true hv)]
      refine y_of (g_var rfl) ⟨fun x => if x = i then true else pp x, ms2, ?_, e4⟩
      have := up true
      rw [if_pos rfl] at this
      exact this.symm
    · rw [if_neg (by simpa using hv)]
      refine ⟨fun x => if x = i then false else pp x, ms2, ?_, e4⟩
      have := up false
      rw [if_neg Bool.false_ne_true, List.append_nil] at this
      exact this.symm
  · subst e0
    rw [dNs_len, List.length_range] at e1
    exact ⟨pp, ms1, by rw [e1], e2⟩
  subst e1
  subst e2
  refine ⟨by simp, ?_⟩
  have fil : ∀ q : Nat → Bool, ((List.range n).filter q).length ≤ n := fun q => by
    have := List.length_filter_le q (List.range n)
    rw [List.length_range] at this
    exact this
  have fin : ∀ q : Nat → Bool, ∀ x ∈ (List.range n).filter q, x < n := fun q x hx => List.mem_range.mp (List.mem_filter.mp hx).1
  refine p_seq (p_no ((b_test (g_neB (g_call (s_cons (g_var rfl) (s_cons (g_var rfl) s_nil)) ⟨n, g, R, dT ((List.range n).filter pp), rfl, by omega, hO, seen_dT _ (by have := fil pp; omega), rfl⟩) (g_call (s_cons (g_var rfl) (s_cons (g_var rfl) (s_cons g_bl s_nil))) ⟨n, R, (List.range n).filter pp, true, rfl, fin pp, rfl⟩))).to ?_) (p_next ?_))
  · rw [asc_dT, pts_dT, fit_ch, Bool.true_and]
    simp
  refine p_seq (p_no ((b_test (g_neB (g_call (s_cons (g_var rfl) (s_cons (g_var rfl) s_nil)) ⟨n, g, R, dT ((List.range n).filter pp), rfl, by omega, hO, seen_dT _ (by have := fil pp; omega), rfl⟩) (g_call (s_cons (g_var rfl) (s_cons (g_var rfl) (s_cons g_bl s_nil))) ⟨n, R, (List.range n).filter pp, false, rfl, fin pp, rfl⟩))).to ?_) (p_next ?_))
  · rw [asc_dT, pts_dT, fit_an hirr, Bool.true_and]
    simp
  refine p_seq (p_asgY (P := fun d M' => ∃ ls ms : List Nat, d = .lst (dNs ls) ∧ ls.length = n ∧ (∀ y ∈ ls, y < 3) ∧ M' = [(some 1, p, dNs ms)]) (y_lc (P0 := fun ds M' => ds = dNs (List.range n) ∧ ∃ ms : List Nat, M' = [(some 1, p, dNs ms)]) (I := fun ds i acc M' => ∃ ls ms : List Nat, acc = dNs ls ∧ ls.length = i ∧ (∀ y ∈ ls, y < 3) ∧ M' = [(some 1, p, dNs ms)]) (yi_of (i_rngN (n := n) (s_cons (g_var rfl) s_nil) (by omega)) ⟨rfl, ms1, rfl⟩) (fun ds M1 ⟨e1, ms1, e2⟩ => ⟨by rw [e1, dNs_len, List.length_range]; omega, [], ms1, rfl, rfl, fun y hy => by (cases hy), e2⟩) (by exact List.mem_singleton.mpr rfl) (fun ds i acc M1 ⟨_, _, _, _, _, e2⟩ m hm k hk => by
      subst e2
      obtain rfl := List.mem_singleton.mp hm
      obtain rfl := List.mem_singleton.mp hk
      simp) (fun ds i acc M1 ⟨ls, _, e1, e3, _⟩ => by
      rw [e1, dNs_len, e3]
      exact Nat.le_refl _) (fun H0 ds M0 i d acc M1 ⟨e0, _⟩ hd ⟨ls, ms1, e1, e3, e4, e2⟩ => yb_of b_yes ?_) (fun ds M0 acc M1 ⟨e0, _⟩ ⟨ls, ms1, e1, e3, e4, e2⟩ => ?_)) fun d M1 ⟨ls, ms1, e1, hls, hl3, e2⟩ => ?_)
  · rw [if_pos rfl]
    subst e0
    subst e1
    subst e2
    refine y_next (j := 0) (m := 3) rfl g_int (by decide) fun v ms2 hv => ⟨ls ++ [v], ms2, ?_, by rw [List.length_append, e3]; rfl, fun y hy => ?_, rfl⟩
    · unfold dNs
      rw [List.map_append]
      rfl
    · rcases List.mem_append.mp hy with hy | hy
      · exact e4 y hy
      · rw [List.mem_singleton.mp hy]
        exact hv
  · subst e0
    rw [dNs_len, List.length_range] at e3
    exact ⟨ls, ms1, by rw [e1], e3, e4, e2⟩
  subst e1
  subst e2
  refine ⟨by simp, p_forget 0 ?_⟩
  refine p_seq (p_new rfl (by simp) fun qp => ?_)
  have hL : ∀ x, x < n → ls.getD x 0 < 3 := fun x hx => by
    rw [List.getD_eq_getElem?_getD]
    have hx2 : x < ls.length := by omega
    rw [List.getElem?_eq_getElem hx2]
    exact hl3 _ (List.getElem_mem hx2)
  have hlab : ∀ x, x < n → ls[x]? = some (ls.getD x 0) := fun x hx => by
    have hx2 : x < ls.length := by omega
    rw [List.getD_eq_getElem?_getD, List.getElem?_eq_getElem hx2]
    rfl
  obtain ⟨L, hL, hlab⟩ : ∃ L : Nat → Nat, (∀ x, x < n → L x < 3) ∧ ∀ x, x < n → ls[x]? = some (L x) := ⟨fun x => ls.getD x 0, hL, hlab⟩
  refine p_seq (p_for (i_rngN (n := 3) (s_cons g_int s_nil) (by decide)) (fun i Γ1 M1 => ∃ y9 y10 : Option Da, Γ1 = [none, none, some (dOrd C n g), some (.int (n : Int)), some (dTab n R), some (dT ((List.range n).filter pp)), none, some (.lst (dNs ls)), none, y9, y10, none, none, none, none] ∧ M1 = [(some 8, qp, (partsF n L i).map dT)]) ⟨none, none, rfl, rfl⟩
    (fun i Γ1 M1 ⟨_, _, _, e2⟩ m hm => by subst e2; simp at hm; subst hm; simp) (fun i d Γ1 M1 hd ⟨y9, y10, e1, e2⟩ => ?_) (fun Γ1 M1 ⟨y9, y10, e1, e2⟩ => ?_))
  · subst e1
    subst e2
    obtain ⟨hi, rfl⟩ := i_rngN_at hd
    refine p_seq (p_asg (d := dT (partF n L i)) (g_tupL ((g_lcN (l := List.range n) (fun x => decide ((L x : Int) = (i : Int))) (fun x => .int (x : Int)) (i_rngN (n := n) (s_cons (g_var rfl) s_nil) (by omega)) (by rw [List.length_range]; omega) (by exact List.mem_singleton.mpr rfl) fun x hx => ⟨b_test (g_eqI (g_ixL (g_var rfl) (g_var rfl) (at_nat (dNs_get (hlab x (List.mem_range.mp hx))))) (g_var rfl)), fun _ => g_var rfl⟩).to ?_)) (by simp) ?_)
    · unfold partF dNs
      congr 2
      apply List.filter_congr
      intro x hx
      exact decide_eq_decide.mpr (by omega)
    have hp2 := partsF_succ n L i
    have hl2 := partsF_len n L i
    refine p_if (b_test (g_IB (f := fun i j => decide (i > j)) (g_cb (s_cons (d := dT (partF n L i)) (g_var rfl) s_nil) c_lenT) g_int)) (fun hb => ?_) (fun hb => p_next ⟨_, _, rfl, ?_⟩)
    · have h0 : 0 < (partF n L i).length := by
        have := of_decide_eq_true hb
        rw [dNs_len] at this
        omega
      rw [if_pos h0] at hp2
      refine p_app (j := 0) rfl (y_pure (g_var rfl)) fun d M1 ⟨e1, e2⟩ => ?_
      subst e1
      subst e2
      refine ⟨_, rfl, by rw [List.length_map]; omega, _, _, rfl, ?_⟩
      rw [hp2, List.map_append]
      rfl
    · have h0 : ¬ 0 < (partF n L i).length := by
        have := of_decide_eq_false hb
        rw [dNs_len] at this
        omega
      rw [if_neg h0, List.append_nil] at hp2
      rw [hp2]
  subst e1
  subst e2
  have e3 : (dNs (List.range 3)).length = 3 := rfl
  rw [e3]
  have hS1 := once_parts hL
  have hSl := partsF_len n L 3
  have hSm : ∀ s ∈ partsF n L 3, (∃ p : Nat → Bool, s = (List.range n).filter p) ∧ 0 < s.length := fun s hs => partsF_mem hs
  generalize partsF n L 3 = S at hS1 hSl hSm ⊢
  have hSn : ∀ s ∈ S, ∀ x ∈ s, x < n := fun s hs x hx => by
    obtain ⟨q, rfl⟩ := (hSm s hs).1
    exact fin q x hx
  have hS6 : ∀ s ∈ S, s.length ≤ n := fun s hs => by
    obtain ⟨q, rfl⟩ := (hSm s hs).1
    exact fil q
  have hitm : ∀ e ∈ S.map dT, Itm e := fun e he => by
    obtain ⟨s, hs, rfl⟩ := List.mem_map.mp he
    exact itm_dT (by have := hS6 s hs; omega)
  have hmapl : (S.map dT).length ≤ 3 := by rw [List.length_map]; exact hSl
  refine p_frz (j := 0) rfl ?_
  refine p_seq (p_asg (d := .bl (S.all (chL R))) ((g_eqI (g_cb (s_cons (g_lcA dT (fun s => !fitB R s true) dT (i_list (ds := S.map dT) (g_var rfl)) (by omega) (by exact List.mem_singleton.mpr rfl) fun s hs => ⟨b_not (b_B (g_call (s_cons (g_var rfl) (s_cons (g_var rfl) (s_cons g_bl s_nil))) ⟨n, R, s, true, rfl, hSn s hs, rfl⟩)), fun _ => g_var rfl⟩) s_nil) c_lenL) g_int).to ?_) (by simp) ?_)
  · rw [none_left]
    congr 2
    funext s
    exact fit_ch
  refine p_seq (p_asg (d := .bl (S.all (anL R))) ((g_eqI (g_cb (s_cons (g_lcA dT (fun s => !fitB R s false) dT (i_list (ds := S.map dT) (g_var rfl)) (by omega) (by exact List.mem_singleton.mpr rfl) fun s hs => ⟨b_not (b_B (g_call (s_cons (g_var rfl) (s_cons (g_var rfl) (s_cons g_bl s_nil))) ⟨n, R, s, false, rfl, hSn s hs, rfl⟩)), fun _ => g_var rfl⟩) s_nil) c_lenL) g_int).to ?_) (by simp) ?_)
  · rw [none_left]
    congr 2
    funext s
    exact fit_an hirr
  refine p_seq (p_asg (d := .tup (S.map dT)) (g_tupL (g_var rfl)) (by simp) ?_)
  have hSeen : SeenR (.tup (S.map dT)) := seen_tup (by omega) hitm
  refine p_seq (p_no ((b_or (b_test (g_neB (g_call (s_cons (g_var rfl) (s_cons (g_var rfl) s_nil)) ⟨n, g, R, .tup (S.map dT), rfl, by omega, hO, hSeen, rfl⟩) (g_var rfl))) fun _ => b_test (g_neB (g_call (s_cons (g_var rfl) (s_cons (g_var rfl) s_nil)) ⟨n, g, R, .tup (S.map dT), rfl, by omega, hO, hSeen, rfl⟩) (g_var rfl))).to ?_) (p_next ?_))
  · rw [part_true hS1 fun s hs => (hSm s hs).1, part_true hS1 fun s hs => (hSm s hs).1]
    simp
  obtain ⟨s0, S', rfl⟩ : ∃ s0 S', S = s0 :: S' := by
    cases S with
    | nil =>
      have := once_len hS1
      exact absurd this (by simp; omega)
    | cons s0 S' => exact ⟨s0, S', rfl⟩
  have h0 := hSm s0 (by simp)
  have h06 := hS6 s0 (by simp)
  have hlenS : s0.length + S'.flatten.length = n := by
    have := once_len hS1
    rw [List.flatten_cons, List.length_append] at this
    exact this
  have hasc : ascL n s0 = true := by
    obtain ⟨⟨q, e⟩, _⟩ := h0
    have := asc_dT (n := n) (p := q)
    rw [← e] at this
    have := (asc_eq this).2.2
    rw [pts_dT] at this
    exact this
  have hS'l : (S'.map dT).length ≤ 2 := by
    rw [List.length_map] at hmapl ⊢
    rw [List.length_cons] at hmapl
    omega
  have hitm' : ∀ e ∈ S'.map dT, Itm e := fun e he => hitm e (List.mem_cons_of_mem _ he)
  have bad1 : Bad n (.tup (S'.map dT)) := ⟨seen_tup (by omega) hitm', fun c => part_once (by rw [map_pts]; exact not_once (.inl (by omega)))⟩
  have bad2 : Bad n (.tup ((s0 :: S').map dT ++ [dT s0])) := ⟨seen_tup (by rw [List.length_append]; show _ + 1 ≤ _; omega) fun e he => (List.mem_append.mp he).elim (hitm e) fun h => by
    rw [List.mem_singleton.mp h]
    exact itm_dT (by omega), fun c => part_once (not_once (.inl (by
      have : ((s0 :: S').map dT ++ [dT s0]) = ((s0 :: S') ++ [s0]).map dT := by rw [List.map_append]; rfl
      rw [this, map_pts, List.flatten_append, List.length_append, List.flatten_cons, List.length_append]
      show _ + (s0 ++ []).length ≠ n
      rw [List.append_nil]
      omega)))⟩
  have bad3 : Bad n (.tup ((s0 :: S').map dT ++ [dT []])) := ⟨seen_tup (by rw [List.length_append]; show _ + 1 ≤ _; omega) fun e he => (List.mem_append.mp he).elim (hitm e) fun h => by
    rw [List.mem_singleton.mp h]
    exact itm_dT (Nat.zero_le _), fun c => part_once (not_once (.inr ⟨[], by
      have : ((s0 :: S').map dT ++ [dT []]) = ((s0 :: S') ++ [[]]).map dT := by rw [List.map_append]; rfl
      rw [this, map_pts]
      simp, rfl⟩))⟩
  have bad4 : Bad n (.lst ((s0 :: S').map dT)) := ⟨⟨⟨_, rfl⟩, fun es e => by cases e⟩, fun c => rfl⟩
  have bad5 : Bad n .non := ⟨⟨⟨_, rfl⟩, fun es e => by cases e⟩, fun c => rfl⟩
  have bad6 : Bad n (.tup ((s0 :: S').map dT ++ [dT [n]])) := ⟨seen_tup (by rw [List.length_append]; show _ + 1 ≤ _; omega) fun e he => (List.mem_append.mp he).elim (hitm e) fun h => by
    rw [List.mem_singleton.mp h]
    exact itm_dT (by show 1 ≤ 20; decide), fun c => part_item (e := dT [n]) (by simp) (by
      show ((decide ((0 : Int) ≤ (n : Int)) && decide ((n : Int) < (n : Int))) && true && _) = false
      rw [decide_eq_false (Int.lt_irrefl _), Bool.and_false]
      rfl)⟩
  have badH : ∀ e : Da, Itm e → ascB n e = false → Bad n (.tup ([e] ++ S'.map dT)) := fun e hi ha => ⟨seen_tup (by rw [List.length_append]; show 1 + _ ≤ _; omega) fun e2 he => (List.mem_append.mp he).elim (fun h => by
    rw [List.mem_singleton.mp h]
    exact hi) (hitm' e2), fun c => part_item (e := e) (by simp) ha⟩
  have bad7 : Bad n (.tup ([.tup (dNs s0 ++ dNs s0)] ++ S'.map dT)) := by
    have e2 : Da.tup (dNs s0 ++ dNs s0) = dT (s0 ++ s0) := by
      unfold dT dNs
      rw [List.map_append]
    rw [e2]
    refine badH _ (itm_dT (by rw [List.length_append]; omega)) (asc_no ?_)
    cases s0 with
    | nil => exact absurd h0.2 (by simp)
    | cons a s => exact twice_no
  have bad8 : Bad n (.tup ([.lst (dNs s0)] ++ S'.map dT)) := badH _ (.inr ⟨_, rfl⟩) rfl
  have bad9 : 1 < s0.length → Bad n (.tup ([.tup (dNs s0).reverse] ++ S'.map dT)) := fun h => by
    rw [rev_dNs]
    exact badH (dT s0.reverse) (itm_dT (by rw [List.length_reverse]; omega)) (asc_no (back_no (asc_pw hasc) h))
  have lenA : ∀ e : Da, ((s0 :: S').map dT).length + [e].length ≤ 1000000 := fun e => by show _ + 1 ≤ _; omega
  have lenB : ∀ e : Da, [e].length + ((s0 :: S').map dT |>.drop 1).length ≤ 1000000 := fun e => by show 1 + (S'.map dT).length ≤ _; omega
  have one : ∀ e : Da, [e].length ≤ 1000000 := fun e => by show 1 ≤ _; decide
  refine p_seq (p_newL (ds := [.tup (((s0 :: S').map dT).drop 1), .tup ((s0 :: S').map dT ++ [dT s0]), .tup ((s0 :: S').map dT ++ [dT []]), .lst ((s0 :: S').map dT), .non, .tup ((s0 :: S').map dT ++ [dT [n]])]) (s_cons (g_tail (g_var rfl)) (s_cons (g_catT (g_var rfl) (g_tup (s_cons (g_ixT (g_var rfl) g_int (at_nat (j := 0) rfl)) s_nil) (one _)) (lenA _)) (s_cons (g_catT (g_var rfl) (g_tup (s_cons (g_tup s_nil (Nat.zero_le _)) s_nil) (one _)) (lenA _)) (s_cons (g_cb (s_cons (g_var rfl) s_nil) c_listT) (s_cons g_non (s_cons (g_catT (g_var rfl) (g_tup (s_cons (g_tup (s_cons (g_var rfl) s_nil) (one _)) s_nil) (one _)) (lenA _)) s_nil)))))) (by show 6 ≤ _; decide) rfl (by simp) fun qb => ?_)
  refine p_seq (p_app (j := 0) rfl (y_pure (g_catT (ds := [.tup (dNs s0 ++ dNs s0)]) (es := ((s0 :: S').map dT).drop 1) (g_tup (s_cons (g_catT (g_ixT (g_var rfl) g_int (at_nat (j := 0) rfl)) (g_ixT (g_var rfl) g_int (at_nat (j := 0) rfl)) (by rw [dNs_len]; omega)) s_nil) (one _)) (g_tail (g_var rfl)) (lenB _))) fun d M1 ⟨e1, e2⟩ => ?_)
  subst e1
  subst e2
  refine ⟨_, rfl, by show 6 < _; decide, ?_⟩
  refine p_seq (p_app (j := 0) rfl (y_pure (g_catT (ds := [.lst (dNs s0)]) (es := ((s0 :: S').map dT).drop 1) (g_tup (s_cons (g_cb (s_cons (d := dT s0) (g_ixT (g_var rfl) g_int (at_nat (j := 0) rfl)) s_nil) c_listT) s_nil) (one _)) (g_tail (g_var rfl)) (lenB _))) fun d M1 ⟨e1, e2⟩ => ?_)
  subst e1
  subst e2
  refine ⟨_, rfl, by show 7 < _; decide, ?_⟩
  refine p_seqE (fun Γ1 M1 => ∃ bl : List Da, (∀ v ∈ bl, Bad n v) ∧ Γ1 = [none, none, some (dOrd C n g), some (.int (n : Int)), some (dTab n R), some (dT ((List.range n).filter pp)), none, some (.lst (dNs ls)), some (.tup ((s0 :: S').map dT)), y9, y10, some (.bl ((s0 :: S').all (chL R))), some (.bl ((s0 :: S').all (anL R))), none, none] ∧ M1 = [(some 13, qb, bl)]) (p_if (b_test (g_IB (f := fun i j => decide (i > j)) (g_cb (s_cons (d := dT s0) (g_ixT (g_var rfl) g_int (at_nat (j := 0) rfl)) s_nil) c_lenT) g_int)) (fun hb => ?_) (fun hb => p_next ⟨_, _, rfl, _, ?_, rfl, rfl⟩)) fun Γ1 M1 ⟨bl, hbad, e1, e2⟩ => ?_
  · have h1 : 1 < s0.length := by
      have := of_decide_eq_true hb
      rw [dNs_len] at this
      omega
    refine p_app (j := 0) rfl (y_pure (g_catT (ds := [.tup (dNs s0).reverse]) (es := ((s0 :: S').map dT).drop 1) (g_tup (s_cons (g_revT (g_ixT (d := dT s0) (g_var rfl) g_int (at_nat (j := 0) rfl))) s_nil) (one _)) (g_tail (g_var rfl)) (lenB _))) fun d M1 ⟨e1, e2⟩ => ?_
    subst e1
    subst e2
    refine ⟨_, rfl, by show 8 < _; decide, _, _, rfl, _, ?_, rfl, rfl⟩
    intro v hv
    have hv : v ∈ [Da.tup (S'.map dT), .tup ((s0 :: S').map dT ++ [dT s0]), .tup ((s0 :: S').map dT ++ [dT []]), .lst ((s0 :: S').map dT), .non, .tup ((s0 :: S').map dT ++ [dT [n]]), .tup ([.tup (dNs s0 ++ dNs s0)] ++ S'.map dT), .tup ([.lst (dNs s0)] ++ S'.map dT), .tup ([.tup (dNs s0).reverse] ++ S'.map dT)] := hv
    rcases List.mem_cons.mp hv with rfl | hv
    · exact bad1
    rcases List.mem_cons.mp hv with rfl | hv
    · exact bad2
    rcases List.mem_cons.mp hv with rfl | hv
    · exact bad3
    rcases List.mem_cons.mp hv with rfl | hv
    · exact bad4
    rcases List.mem_cons.mp hv with rfl | hv
    · exact bad5
    rcases List.mem_cons.mp hv with rfl | hv
    · exact bad6
    rcases List.mem_cons.mp hv with rfl | hv
    · exact bad7
    rcases List.mem_cons.mp hv with rfl | hv
    · exact bad8
    obtain rfl := List.mem_singleton.mp hv
    exact bad9 h1
  · intro v hv
    have hv : v ∈ [Da.tup (S'.map dT), .tup ((s0 :: S').map dT ++ [dT s0]), .tup ((s0 :: S').map dT ++ [dT []]), .lst ((s0 :: S').map dT), .non, .tup ((s0 :: S').map dT ++ [dT [n]]), .tup ([.tup (dNs s0 ++ dNs s0)] ++ S'.map dT), .tup ([.lst (dNs s0)] ++ S'.map dT)] := hv
    rcases List.mem_cons.mp hv with rfl | hv
    · exact bad1
    rcases List.mem_cons.mp hv with rfl | hv
    · exact bad2
    rcases List.mem_cons.mp hv with rfl | hv
    · exact bad3
    rcases List.mem_cons.mp hv with rfl | hv
    · exact bad4
    rcases List.mem_cons.mp hv with rfl | hv
    · exact bad5
    rcases List.mem_cons.mp hv with rfl | hv
    · exact bad6
    rcases List.mem_cons.mp hv with rfl | hv
    · exact bad7
    obtain rfl := List.mem_singleton.mp hv
    exact bad8
  subst e1
  subst e2
  refine p_frz (j := 0) rfl ?_
  refine p_seq (p_for (i_list (ds := bl) (g_var rfl)) (fun i Γ1 M1 => ∃ y14 : Option Da, Γ1 = [none, none, some (dOrd C n g), some (.int (n : Int)), some (dTab n R), some (dT ((List.range n).filter pp)), none, some (.lst (dNs ls)), some (.tup ((s0 :: S').map dT)), y9, y10, some (.bl ((s0 :: S').all (chL R))), some (.bl ((s0 :: S').all (anL R))), some (.lst bl), y14] ∧ M1 = []) ⟨none, rfl, rfl⟩
    (fun i Γ1 M1 ⟨_, _, e2⟩ m hm => by subst e2; cases hm) (fun i d Γ1 M1 hd ⟨y14, e1, e2⟩ => ?_) (fun Γ1 M1 ⟨y14, e1, e2⟩ => ?_))
  · subst e1
    subst e2
    obtain ⟨h1, h2⟩ := hbad d (List.mem_of_getElem? hd)
    refine p_no ((b_or (b_test (g_isnotB (g_call (s_cons (g_var rfl) (s_cons (g_var rfl) s_nil)) ⟨n, g, R, d, rfl, by omega, hO, h1, rfl⟩) g_bl)) fun _ => b_test (g_isnotB (g_call (s_cons (g_var rfl) (s_cons (g_var rfl) s_nil)) ⟨n, g, R, d, rfl, by omega, hO, h1, rfl⟩) g_bl)).to ?_) (p_next ⟨_, rfl, rfl⟩)
    rw [h2, h2]
    rfl
  subst e1
  subst e2
  refine p_seq (p_for (i_list (ds := [.non, .lst [.int 0], dT [n], .tup [.int (-1)], dT [0, 0], .tup [.non], .tup [.bl true]]) (g_lst (s_cons g_non (s_cons (g_lst (s_cons g_int s_nil) (one _)) (s_cons (g_tup (s_cons (g_var rfl) s_nil) (one _)) (s_cons (g_tup (s_cons (g_U (f := fun i => -i) g_int) s_nil) (one _)) (s_cons (g_tup (s_cons g_int (s_cons g_int s_nil)) (by show 2 ≤ _; decide)) (s_cons (g_tup (s_cons g_non s_nil) (one _)) (s_cons (g_tup (s_cons g_bl s_nil) (one _)) s_nil))))))) (by show 7 ≤ _; decide))) (fun i Γ1 M1 => ∃ y14 : Option Da, Γ1 = [none, none, some (dOrd C n g), some (.int (n : Int)), some (dTab n R), some (dT ((List.range n).filter pp)), none, some (.lst (dNs ls)), some (.tup ((s0 :: S').map dT)), y9, y10, some (.bl ((s0 :: S').all (chL R))), some (.bl ((s0 :: S').all (anL R))), some (.lst bl), y14] ∧ M1 = []) ⟨y14, rfl, rfl⟩
    (fun i Γ1 M1 ⟨_, _, e2⟩ m hm => by subst e2; cases hm) (fun i d Γ1 M1 hd ⟨y14, e1, e2⟩ => ?_) (fun Γ1 M1 ⟨y14, e1, e2⟩ => ?_))
  · subst e1
    subst e2
    have tyI : ∀ i : Int, ∃ T, tyD (.int i) = some T := fun i => ⟨_, rfl⟩
    have one2 : ∀ e : Da, (∃ T, tyD e = some T) → SeenP (.tup [e]) := fun e h => ⟨⟨_, rfl⟩, fun es e2 => by
      injection e2 with e2
      subst e2
      exact ⟨by show 1 ≤ _; decide, fun e3 he => by rw [List.mem_singleton.mp he]; exact h⟩⟩
    have hbd : SeenP d ∧ ascB n d = false := by
      have hv := List.mem_of_getElem? hd
      rcases List.mem_cons.mp hv with rfl | hv
      · exact ⟨⟨⟨_, rfl⟩, fun es e => by cases e⟩, rfl⟩
      rcases List.mem_cons.mp hv with rfl | hv
      · exact ⟨⟨⟨_, rfl⟩, fun es e => by cases e⟩, rfl⟩
      rcases List.mem_cons.mp hv with rfl | hv
      · refine ⟨seen_dT [n] (by show 1 ≤ _; decide), ?_⟩
        show ((decide ((0 : Int) ≤ (n : Int)) && decide ((n : Int) < (n : Int))) && true && _) = false
        rw [decide_eq_false (Int.lt_irrefl _), Bool.and_false]
        rfl
      rcases List.mem_cons.mp hv with rfl | hv
      · exact ⟨one2 _ (tyI _), rfl⟩
      rcases List.mem_cons.mp hv with rfl | hv
      · exact ⟨seen_dT [0, 0] (by show 2 ≤ _; decide), asc_no fun h => by simp at h⟩
      rcases List.mem_cons.mp hv with rfl | hv
      · exact ⟨one2 _ ⟨_, rfl⟩, rfl⟩
      obtain rfl := List.mem_singleton.mp hv
      exact ⟨one2 _ ⟨_, rfl⟩, rfl⟩
    obtain ⟨h1, h2⟩ := hbd
    refine p_no ((b_or (b_test (g_isnotB (g_call (s_cons (g_var rfl) (s_cons (g_var rfl) s_nil)) ⟨n, g, R, d, rfl, by omega, hO, h1, rfl⟩) g_bl)) fun _ => b_test (g_isnotB (g_call (s_cons (g_var rfl) (s_cons (g_var rfl) s_nil)) ⟨n, g, R, d, rfl, by omega, hO, h1, rfl⟩) g_bl)).to ?_) (p_next ⟨_, rfl, rfl⟩)
    rw [h2]
    rfl
  subst e1
  subst e2
  exact p_ret g_bl ⟨_, rfl⟩
end
end OF

namespace OF
open PySem PySem.Spec PyProof.Rows L2 Fo
instance nm0 : Fo.Nm := ⟨fun _ => "", fun a b _ n => absurd rfl n⟩
theorem all_mk {l : PySem.W.OpenLaw} {w : World} {K : PySem.W.Frag} {h : Heap} {mg : Str → Option Value} {fa C_Order ad_init ad_pairs ad_size ad_less ad_related ad_is_chain ad_is_antichain ad_is_integer ad_is_point ad_has ad_set_of ad_lowest ad_members ad_is_pair ad_closed ad_is_ascending ad_check_size ad_check_pairs ad_related_pairs ad_d_is_chain ad_d_is_antichain ad_has_each_once ad_is_chain_parting ad_is_antichain_parting ad_law_numbers ad_law_next ad_law_order ad_law_table ad_law_fits ad_law ad_refini C_Mal C_Ref : Addr} (X : K.In h) (G : h.Ns mainGlobals mg) (hfa : mg "law" = some (.ref fa))
    {od_init an_init od_pairs an_pairs od_size an_size od_less an_less od_related an_related od_is_chain an_is_chain od_is_antichain an_is_antichain od_is_integer an_is_integer od_is_point an_is_point od_has an_has od_set_of an_set_of od_lowest an_lowest od_members an_members od_is_pair an_is_pair od_closed an_closed od_is_ascending an_is_ascending od_check_size an_check_size od_check_pairs an_check_pairs od_related_pairs an_related_pairs od_d_is_chain an_d_is_chain od_d_is_antichain an_d_is_antichain od_has_each_once an_has_each_once od_is_chain_parting an_is_chain_parting od_is_antichain_parting an_is_antichain_parting od_law_numbers an_law_numbers od_law_next an_law_next od_law_order an_law_order od_law_table an_law_table od_law_fits an_law_fits od_law an_law od_refini an_refini : Option Addr} {sl_init sl_pairs sl_size sl_less sl_related sl_is_chain sl_is_antichain sl_is_integer sl_is_point sl_has sl_set_of sl_lowest sl_members sl_is_pair sl_closed sl_is_ascending sl_check_size sl_check_pairs sl_related_pairs sl_d_is_chain sl_d_is_antichain sl_has_each_once sl_is_chain_parting sl_is_antichain_parting sl_law_numbers sl_law_next sl_law_order sl_law_table sl_law_fits sl_law sl_refini : Array (Option Value)} {oc_init kV_init dc_init pm_init cd_init ct_init oc_pairs kV_pairs dc_pairs pm_pairs cd_pairs ct_pairs oc_size kV_size dc_size pm_size cd_size ct_size oc_less kV_less dc_less pm_less cd_less ct_less oc_related kV_related dc_related pm_related cd_related ct_related oc_is_chain kV_is_chain dc_is_chain pm_is_chain cd_is_chain ct_is_chain oc_is_antichain kV_is_antichain dc_is_antichain pm_is_antichain cd_is_antichain ct_is_antichain oc_is_integer kV_is_integer dc_is_integer pm_is_integer cd_is_integer ct_is_integer oc_is_point kV_is_point dc_is_point pm_is_point cd_is_point ct_is_point oc_has kV_has dc_has pm_has cd_has ct_has oc_set_of kV_set_of dc_set_of pm_set_of cd_set_of ct_set_of oc_lowest kV_lowest dc_lowest pm_lowest cd_lowest ct_lowest oc_members kV_members dc_members pm_members cd_members ct_members oc_is_pair kV_is_pair dc_is_pair pm_is_pair cd_is_pair ct_is_pair oc_closed kV_closed dc_closed pm_closed cd_closed ct_closed oc_is_ascending kV_is_ascending dc_is_ascending pm_is_ascending cd_is_ascending ct_is_ascending oc_check_size kV_check_size dc_check_size pm_check_size cd_check_size ct_check_size oc_check_pairs kV_check_pairs dc_check_pairs pm_check_pairs cd_check_pairs ct_check_pairs oc_related_pairs kV_related_pairs dc_related_pairs pm_related_pairs cd_related_pairs ct_related_pairs oc_d_is_chain kV_d_is_chain dc_d_is_chain pm_d_is_chain cd_d_is_chain ct_d_is_chain oc_d_is_antichain kV_d_is_antichain dc_d_is_antichain pm_d_is_antichain cd_d_is_antichain ct_d_is_antichain oc_has_each_once kV_has_each_once dc_has_each_once pm_has_each_once cd_has_each_once ct_has_each_once oc_is_chain_parting kV_is_chain_parting dc_is_chain_parting pm_is_chain_parting cd_is_chain_parting ct_is_chain_parting oc_is_antichain_parting kV_is_antichain_parting dc_is_antichain_parting pm_is_antichain_parting cd_is_antichain_parting ct_is_antichain_parting oc_law_numbers kV_law_numbers dc_law_numbers pm_law_numbers cd_law_numbers ct_law_numbers oc_law_next kV_law_next dc_law_next pm_law_next cd_law_next ct_law_next oc_law_order kV_law_order dc_law_order pm_law_order cd_law_order ct_law_order oc_law_table kV_law_table dc_law_table pm_law_table cd_law_table ct_law_table oc_law_fits kV_law_fits dc_law_fits pm_law_fits cd_law_fits ct_law_fits oc_law kV_law dc_law pm_law cd_law ct_law oc_refini kV_refini dc_refini pm_refini cd_refini ct_refini : Value} {tM : Tok} {cvMal : ClassData} {nmR qR : Str} {NR : Addr} {bsR bmR : List Value} {snR : List Str} {subR : List Value} {abR : Bool} {colR : Option Bool} {ddR : Option Addr} {k0R k1R k2R k3R k5R : Option Value} {cvRef : ClassData}
    (a_Order : PySem.W.nsIn K mainGlobals "Order" = some (some (.ref C_Order)))
    (pg_Order : PySem.W.plainGet K C_Order Str.empty = true)
    (hd_Order : PySem.W.hasDictIn K C_Order = true)
    (po_Order : PySem.W.plainOver K C_Order = true)
    (sa_Order : PySem.W.findIn K (.ref C_Order) "__setattr__" = some (some (.builtin "object.__setattr__")))
    (mk_Order : PySem.W.makesIn K C_Order = true)
    (kc_Order : PySem.W.keepIn K (.ref C_Order) = true)
    (n_Order_n : PySem.W.findIn K (.ref C_Order) "n" = some none)
    (n_Order_above : PySem.W.findIn K (.ref C_Order) "above" = some none)
    (a_init : PySem.W.findIn K (.ref C_Order) "__init__" = some (some (.ref ad_init)))
    (i_init : PySem.W.isFn K (.ref ad_init) = true)
    (l_init : K.lookup ad_init = some ⟨oc_init, od_init, .func (PySem.W.fnOf "__init__" "Order.__init__" (defArgs s_Order___init__) (defBody s_Order___init__) (defScope s_Order___init__) .none kV_init dc_init pm_init an_init cd_init ct_init), sl_init⟩)
    (c_init : PySem.W.codeIn K cd_init "Order.__init__" = true)
    (k_init : PySem.W.keepIn K (.ref ad_init) = true)
    (a_pairs : PySem.W.findIn K (.ref C_Order) "pairs" = some (some (.ref ad_pairs)))
    (i_pairs : PySem.W.isFn K (.ref ad_pairs) = true)
    (l_pairs : K.lookup ad_pairs = some ⟨oc_pairs, od_pairs, .func (PySem.W.fnOf "pairs" "Order.pairs" (defArgs s_Order_pairs) (defBody s_Order_pairs) (defScope s_Order_pairs) .none kV_pairs dc_pairs pm_pairs an_pairs cd_pairs ct_pairs), sl_pairs⟩)
    (c_pairs : PySem.W.codeIn K cd_pairs "Order.pairs" = true)
    (k_pairs : PySem.W.keepIn K (.ref ad_pairs) = true)
    (a_size : PySem.W.findIn K (.ref C_Order) "size" = some (some (.ref ad_size)))
    (i_size : PySem.W.isFn K (.ref ad_size) = true)
    (l_size : K.lookup ad_size = some ⟨oc_size, od_size, .func (PySem.W.fnOf "size" "Order.size" (defArgs s_Order_size) (defBody s_Order_size) (defScope s_Order_size) .none kV_size dc_size pm_size an_size cd_size ct_size), sl_size⟩)
    (c_size : PySem.W.codeIn K cd_size "Order.size" = true)
    (k_size : PySem.W.keepIn K (.ref ad_size) = true)
    (a_less : PySem.W.findIn K (.ref C_Order) "less" = some (some (.ref ad_less)))
    (i_less : PySem.W.isFn K (.ref ad_less) = true)
    (l_less : K.lookup ad_less = some ⟨oc_less, od_less, .func (PySem.W.fnOf "less" "Order.less" (defArgs s_Order_less) (defBody s_Order_less) (defScope s_Order_less) .none kV_less dc_less pm_less an_less cd_less ct_less), sl_less⟩)
    (c_less : PySem.W.codeIn K cd_less "Order.less" = true)
    (k_less : PySem.W.keepIn K (.ref ad_less) = true)
    (a_related : PySem.W.findIn K (.ref C_Order) "related" = some (some (.ref ad_related)))
    (i_related : PySem.W.isFn K (.ref ad_related) = true)
    (l_related : K.lookup ad_related = some ⟨oc_related, od_related, .func (PySem.W.fnOf "related" "Order.related" (defArgs s_Order_related) (defBody s_Order_related) (defScope s_Order_related) .none kV_related dc_related pm_related an_related cd_related ct_related), sl_related⟩)
    (c_related : PySem.W.codeIn K cd_related "Order.related" = true)
    (k_related : PySem.W.keepIn K (.ref ad_related) = true)
    (a_is_chain : PySem.W.findIn K (.ref C_Order) "is_chain" = some (some (.ref ad_is_chain)))
    (i_is_chain : PySem.W.isFn K (.ref ad_is_chain) = true)
    (l_is_chain : K.lookup ad_is_chain = some ⟨oc_is_chain, od_is_chain, .func (PySem.W.fnOf "is_chain" "Order.is_chain" (defArgs s_Order_is_chain) (defBody s_Order_is_chain) (defScope s_Order_is_chain) .none kV_is_chain dc_is_chain pm_is_chain an_is_chain cd_is_chain ct_is_chain), sl_is_chain⟩)
    (c_is_chain : PySem.W.codeIn K cd_is_chain "Order.is_chain" = true)
    (k_is_chain : PySem.W.keepIn K (.ref ad_is_chain) = true)
    (a_is_antichain : PySem.W.findIn K (.ref C_Order) "is_antichain" = some (some (.ref ad_is_antichain)))
    (i_is_antichain : PySem.W.isFn K (.ref ad_is_antichain) = true)
    (l_is_antichain : K.lookup ad_is_antichain = some ⟨oc_is_antichain, od_is_antichain, .func (PySem.W.fnOf "is_antichain" "Order.is_antichain" (defArgs s_Order_is_antichain) (defBody s_Order_is_antichain) (defScope s_Order_is_antichain) .none kV_is_antichain dc_is_antichain pm_is_antichain an_is_antichain cd_is_antichain ct_is_antichain), sl_is_antichain⟩)
    (c_is_antichain : PySem.W.codeIn K cd_is_antichain "Order.is_antichain" = true)
    (k_is_antichain : PySem.W.keepIn K (.ref ad_is_antichain) = true)
    (a_is_integer : PySem.W.nsIn K mainGlobals "is_integer" = some (some (.ref ad_is_integer)))
    (l_is_integer : K.lookup ad_is_integer = some ⟨oc_is_integer, od_is_integer, .func (PySem.W.fnOf "is_integer" "is_integer" (defArgs s_is_integer) (defBody s_is_integer) (defScope s_is_integer) .none kV_is_integer dc_is_integer pm_is_integer an_is_integer cd_is_integer ct_is_integer), sl_is_integer⟩)
    (c_is_integer : PySem.W.codeIn K cd_is_integer "is_integer" = true)
    (k_is_integer : PySem.W.keepIn K (.ref ad_is_integer) = true)
    (a_is_point : PySem.W.nsIn K mainGlobals "is_point" = some (some (.ref ad_is_point)))
    (l_is_point : K.lookup ad_is_point = some ⟨oc_is_point, od_is_point, .func (PySem.W.fnOf "is_point" "is_point" (defArgs s_is_point) (defBody s_is_point) (defScope s_is_point) .none kV_is_point dc_is_point pm_is_point an_is_point cd_is_point ct_is_point), sl_is_point⟩)
    (c_is_point : PySem.W.codeIn K cd_is_point "is_point" = true)
    (k_is_point : PySem.W.keepIn K (.ref ad_is_point) = true)
    (a_has : PySem.W.nsIn K mainGlobals "has" = some (some (.ref ad_has)))
    (l_has : K.lookup ad_has = some ⟨oc_has, od_has, .func (PySem.W.fnOf "has" "has" (defArgs s_has) (defBody s_has) (defScope s_has) .none kV_has dc_has pm_has an_has cd_has ct_has), sl_has⟩)
    (c_has : PySem.W.codeIn K cd_has "has" = true)
    (k_has : PySem.W.keepIn K (.ref ad_has) = true)
    (a_set_of : PySem.W.nsIn K mainGlobals "set_of" = some (some (.ref ad_set_of)))
    (l_set_of : K.lookup ad_set_of = some ⟨oc_set_of, od_set_of, .func (PySem.W.fnOf "set_of" "set_of" (defArgs s_set_of) (defBody s_set_of) (defScope s_set_of) .none kV_set_of dc_set_of pm_set_of an_set_of cd_set_of ct_set_of), sl_set_of⟩)
    (c_set_of : PySem.W.codeIn K cd_set_of "set_of" = true)
    (k_set_of : PySem.W.keepIn K (.ref ad_set_of) = true)
    (a_lowest : PySem.W.nsIn K mainGlobals "lowest" = some (some (.ref ad_lowest)))
    (l_lowest : K.lookup ad_lowest = some ⟨oc_lowest, od_lowest, .func (PySem.W.fnOf "lowest" "lowest" (defArgs s_lowest) (defBody s_lowest) (defScope s_lowest) .none kV_lowest dc_lowest pm_lowest an_lowest cd_lowest ct_lowest), sl_lowest⟩)
    (c_lowest : PySem.W.codeIn K cd_lowest "lowest" = true)
    (k_lowest : PySem.W.keepIn K (.ref ad_lowest) = true)
    (a_members : PySem.W.nsIn K mainGlobals "members" = some (some (.ref ad_members)))
    (l_members : K.lookup ad_members = some ⟨oc_members, od_members, .func (PySem.W.fnOf "members" "members" (defArgs s_members) (defBody s_members) (defScope s_members) .none kV_members dc_members pm_members an_members cd_members ct_members), sl_members⟩)
    (c_members : PySem.W.codeIn K cd_members "members" = true)
    (k_members : PySem.W.keepIn K (.ref ad_members) = true)
    (a_is_pair : PySem.W.nsIn K mainGlobals "is_pair" = some (some (.ref ad_is_pair)))
    (l_is_pair : K.lookup ad_is_pair = some ⟨oc_is_pair, od_is_pair, .func (PySem.W.fnOf "is_pair" "is_pair" (defArgs s_is_pair) (defBody s_is_pair) (defScope s_is_pair) .none kV_is_pair dc_is_pair pm_is_pair an_is_pair cd_is_pair ct_is_pair), sl_is_pair⟩)
    (c_is_pair : PySem.W.codeIn K cd_is_pair "is_pair" = true)
    (k_is_pair : PySem.W.keepIn K (.ref ad_is_pair) = true)
    (a_closed : PySem.W.nsIn K mainGlobals "closed" = some (some (.ref ad_closed)))
    (l_closed : K.lookup ad_closed = some ⟨oc_closed, od_closed, .func (PySem.W.fnOf "closed" "closed" (defArgs s_closed) (defBody s_closed) (defScope s_closed) .none kV_closed dc_closed pm_closed an_closed cd_closed ct_closed), sl_closed⟩)
    (c_closed : PySem.W.codeIn K cd_closed "closed" = true)
    (k_closed : PySem.W.keepIn K (.ref ad_closed) = true)
    (a_is_ascending : PySem.W.nsIn K mainGlobals "is_ascending" = some (some (.ref ad_is_ascending)))
    (l_is_ascending : K.lookup ad_is_ascending = some ⟨oc_is_ascending, od_is_ascending, .func (PySem.W.fnOf "is_ascending" "is_ascending" (defArgs s_is_ascending) (defBody s_is_ascending) (defScope s_is_ascending) .none kV_is_ascending dc_is_ascending pm_is_ascending an_is_ascending cd_is_ascending ct_is_ascending), sl_is_ascending⟩)
    (c_is_ascending : PySem.W.codeIn K cd_is_ascending "is_ascending" = true)
    (k_is_ascending : PySem.W.keepIn K (.ref ad_is_ascending) = true)
    (a_check_size : PySem.W.nsIn K mainGlobals "check_size" = some (some (.ref ad_check_size)))
    (l_check_size : K.lookup ad_check_size = some ⟨oc_check_size, od_check_size, .func (PySem.W.fnOf "check_size" "check_size" (defArgs s_check_size) (defBody s_check_size) (defScope s_check_size) .none kV_check_size dc_check_size pm_check_size an_check_size cd_check_size ct_check_size), sl_check_size⟩)
    (c_check_size : PySem.W.codeIn K cd_check_size "check_size" = true)
    (k_check_size : PySem.W.keepIn K (.ref ad_check_size) = true)
    (a_check_pairs : PySem.W.nsIn K mainGlobals "check_pairs" = some (some (.ref ad_check_pairs)))
    (l_check_pairs : K.lookup ad_check_pairs = some ⟨oc_check_pairs, od_check_pairs, .func (PySem.W.fnOf "check_pairs" "check_pairs" (defArgs s_check_pairs) (defBody s_check_pairs) (defScope s_check_pairs) .none kV_check_pairs dc_check_pairs pm_check_pairs an_check_pairs cd_check_pairs ct_check_pairs), sl_check_pairs⟩)
    (c_check_pairs : PySem.W.codeIn K cd_check_pairs "check_pairs" = true)
    (k_check_pairs : PySem.W.keepIn K (.ref ad_check_pairs) = true)
    (a_related_pairs : PySem.W.nsIn K mainGlobals "related_pairs" = some (some (.ref ad_related_pairs)))
    (l_related_pairs : K.lookup ad_related_pairs = some ⟨oc_related_pairs, od_related_pairs, .func (PySem.W.fnOf "related_pairs" "related_pairs" (defArgs s_related_pairs) (defBody s_related_pairs) (defScope s_related_pairs) .none kV_related_pairs dc_related_pairs pm_related_pairs an_related_pairs cd_related_pairs ct_related_pairs), sl_related_pairs⟩)
    (c_related_pairs : PySem.W.codeIn K cd_related_pairs "related_pairs" = true)
    (k_related_pairs : PySem.W.keepIn K (.ref ad_related_pairs) = true)
    (a_d_is_chain : PySem.W.nsIn K mainGlobals "is_chain" = some (some (.ref ad_d_is_chain)))
    (l_d_is_chain : K.lookup ad_d_is_chain = some ⟨oc_d_is_chain, od_d_is_chain, .func (PySem.W.fnOf "is_chain" "is_chain" (defArgs s_is_chain) (defBody s_is_chain) (defScope s_is_chain) .none kV_d_is_chain dc_d_is_chain pm_d_is_chain an_d_is_chain cd_d_is_chain ct_d_is_chain), sl_d_is_chain⟩)
    (c_d_is_chain : PySem.W.codeIn K cd_d_is_chain "is_chain" = true)
    (k_d_is_chain : PySem.W.keepIn K (.ref ad_d_is_chain) = true)
    (a_d_is_antichain : PySem.W.nsIn K mainGlobals "is_antichain" = some (some (.ref ad_d_is_antichain)))
    (l_d_is_antichain : K.lookup ad_d_is_antichain = some ⟨oc_d_is_antichain, od_d_is_antichain, .func (PySem.W.fnOf "is_antichain" "is_antichain" (defArgs s_is_antichain) (defBody s_is_antichain) (defScope s_is_antichain) .none kV_d_is_antichain dc_d_is_antichain pm_d_is_antichain an_d_is_antichain cd_d_is_antichain ct_d_is_antichain), sl_d_is_antichain⟩)
    (c_d_is_antichain : PySem.W.codeIn K cd_d_is_antichain "is_antichain" = true)
    (k_d_is_antichain : PySem.W.keepIn K (.ref ad_d_is_antichain) = true)
    (a_has_each_once : PySem.W.nsIn K mainGlobals "has_each_once" = some (some (.ref ad_has_each_once)))
    (l_has_each_once : K.lookup ad_has_each_once = some ⟨oc_has_each_once, od_has_each_once, .func (PySem.W.fnOf "has_each_once" "has_each_once" (defArgs s_has_each_once) (defBody s_has_each_once) (defScope s_has_each_once) .none kV_has_each_once dc_has_each_once pm_has_each_once an_has_each_once cd_has_each_once ct_has_each_once), sl_has_each_once⟩)
    (c_has_each_once : PySem.W.codeIn K cd_has_each_once "has_each_once" = true)
    (k_has_each_once : PySem.W.keepIn K (.ref ad_has_each_once) = true)
    (a_is_chain_parting : PySem.W.nsIn K mainGlobals "is_chain_parting" = some (some (.ref ad_is_chain_parting)))
    (l_is_chain_parting : K.lookup ad_is_chain_parting = some ⟨oc_is_chain_parting, od_is_chain_parting, .func (PySem.W.fnOf "is_chain_parting" "is_chain_parting" (defArgs s_is_chain_parting) (defBody s_is_chain_parting) (defScope s_is_chain_parting) .none kV_is_chain_parting dc_is_chain_parting pm_is_chain_parting an_is_chain_parting cd_is_chain_parting ct_is_chain_parting), sl_is_chain_parting⟩)
    (c_is_chain_parting : PySem.W.codeIn K cd_is_chain_parting "is_chain_parting" = true)
    (k_is_chain_parting : PySem.W.keepIn K (.ref ad_is_chain_parting) = true)
    (a_is_antichain_parting : PySem.W.nsIn K mainGlobals "is_antichain_parting" = some (some (.ref ad_is_antichain_parting)))
    (l_is_antichain_parting : K.lookup ad_is_antichain_parting = some ⟨oc_is_antichain_parting, od_is_antichain_parting, .func (PySem.W.fnOf "is_antichain_parting" "is_antichain_parting" (defArgs s_is_antichain_parting) (defBody s_is_antichain_parting) (defScope s_is_antichain_parting) .none kV_is_antichain_parting dc_is_antichain_parting pm_is_antichain_parting an_is_antichain_parting cd_is_antichain_parting ct_is_antichain_parting), sl_is_antichain_parting⟩)
    (c_is_antichain_parting : PySem.W.codeIn K cd_is_antichain_parting "is_antichain_parting" = true)
    (k_is_antichain_parting : PySem.W.keepIn K (.ref ad_is_antichain_parting) = true)
    (a_law_numbers : PySem.W.nsIn K mainGlobals "_law_numbers" = some (some (.ref ad_law_numbers)))
    (l_law_numbers : K.lookup ad_law_numbers = some ⟨oc_law_numbers, od_law_numbers, .func (PySem.W.fnOf "_law_numbers" "_law_numbers" (defArgs s_law_numbers) (defBody s_law_numbers) (defScope s_law_numbers) .none kV_law_numbers dc_law_numbers pm_law_numbers an_law_numbers cd_law_numbers ct_law_numbers), sl_law_numbers⟩)
    (c_law_numbers : PySem.W.codeIn K cd_law_numbers "_law_numbers" = true)
    (k_law_numbers : PySem.W.keepIn K (.ref ad_law_numbers) = true)
    (a_law_next : PySem.W.nsIn K mainGlobals "_law_next" = some (some (.ref ad_law_next)))
    (l_law_next : K.lookup ad_law_next = some ⟨oc_law_next, od_law_next, .func (PySem.W.fnOf "_law_next" "_law_next" (defArgs s_law_next) (defBody s_law_next) (defScope s_law_next) .none kV_law_next dc_law_next pm_law_next an_law_next cd_law_next ct_law_next), sl_law_next⟩)
    (c_law_next : PySem.W.codeIn K cd_law_next "_law_next" = true)
    (k_law_next : PySem.W.keepIn K (.ref ad_law_next) = true)
    (a_law_order : PySem.W.nsIn K mainGlobals "_law_order" = some (some (.ref ad_law_order)))
    (l_law_order : K.lookup ad_law_order = some ⟨oc_law_order, od_law_order, .func (PySem.W.fnOf "_law_order" "_law_order" (defArgs s_law_order) (defBody s_law_order) (defScope s_law_order) .none kV_law_order dc_law_order pm_law_order an_law_order cd_law_order ct_law_order), sl_law_order⟩)
    (c_law_order : PySem.W.codeIn K cd_law_order "_law_order" = true)
    (k_law_order : PySem.W.keepIn K (.ref ad_law_order) = true)
    (a_law_table : PySem.W.nsIn K mainGlobals "_law_table" = some (some (.ref ad_law_table)))
    (l_law_table : K.lookup ad_law_table = some ⟨oc_law_table, od_law_table, .func (PySem.W.fnOf "_law_table" "_law_table" (defArgs s_law_table) (defBody s_law_table) (defScope s_law_table) .none kV_law_table dc_law_table pm_law_table an_law_table cd_law_table ct_law_table), sl_law_table⟩)
    (c_law_table : PySem.W.codeIn K cd_law_table "_law_table" = true)
    (k_law_table : PySem.W.keepIn K (.ref ad_law_table) = true)
    (a_law_fits : PySem.W.nsIn K mainGlobals "_law_fits" = some (some (.ref ad_law_fits)))
    (l_law_fits : K.lookup ad_law_fits = some ⟨oc_law_fits, od_law_fits, .func (PySem.W.fnOf "_law_fits" "_law_fits" (defArgs s_law_fits) (defBody s_law_fits) (defScope s_law_fits) .none kV_law_fits dc_law_fits pm_law_fits an_law_fits cd_law_fits ct_law_fits), sl_law_fits⟩)
    (c_law_fits : PySem.W.codeIn K cd_law_fits "_law_fits" = true)
    (k_law_fits : PySem.W.keepIn K (.ref ad_law_fits) = true)
    (a_law : PySem.W.nsIn K mainGlobals "law" = some (some (.ref ad_law)))
    (l_law : K.lookup ad_law = some ⟨oc_law, od_law, .func (PySem.W.fnOf "law" "law" (defArgs s_law) (defBody s_law) (defScope s_law) .none kV_law dc_law pm_law an_law cd_law ct_law), sl_law⟩)
    (c_law : PySem.W.codeIn K cd_law "law" = true)
    (k_law : PySem.W.keepIn K (.ref ad_law) = true)
    (a_Mal : PySem.W.nsIn K mainGlobals "Malformed" = some (some (.ref C_Mal)))
    (ex_Mal : PySem.W.excIn K C_Mal [.type "ValueError", .type "Exception", .type "BaseException", .type "object"] "ValueError.__new__" = true)
    (kp_Mal : PySem.W.keepIn K (.ref C_Mal) = true)
    (sb_Mal : PySem.W.subIn K (.ref C_Mal) (.type "BaseException") = some true)
    (ty_Mal : PySem.W.typeIn K (.ref C_Mal) = some (.type "type"))
    (se_Mal : PySem.W.subIn K (.ref C_Mal) (.ref C_Mal) = some true)
    (cl_Mal : PySem.W.clsIn K C_Mal = some cvMal)
    (a_Ref : PySem.W.nsIn K mainGlobals "Refused" = some (some (.ref C_Ref)))
    (lx_Ref : K.lookup C_Ref = some (excClassObj nmR qR C_Ref NR bsR bmR true snR subR abR colR ddR k0R k1R k2R k3R k5R "ValueError.__new__"))
    (rv_Ref : PySem.HandSPX.refsVE bmR = true)
    (sa_Ref : PySem.W.findIn K (.ref C_Ref) "__setattr__" = some (some (.builtin "object.__setattr__")))
    (kp_Ref : PySem.W.keepIn K (.ref C_Ref) = true)
    (sb_Ref : PySem.W.subIn K (.ref C_Ref) (.type "BaseException") = some true)
    (ty_Ref : PySem.W.typeIn K (.ref C_Ref) = some (.type "type"))
    (se_Ref : PySem.W.subIn K (.ref C_Ref) (.ref C_Ref) = some true)
    (sm_Ref : PySem.W.subIn K (.ref C_Ref) (.ref C_Mal) = some false)
    (cl_Ref : PySem.W.clsIn K C_Ref = some cvRef)
    (no_Ref : PySem.W.findIn K (.ref C_Ref) "reason" = some none)
    (ga_Ref : PySem.W.findIn K (.ref C_Ref) "__getattribute__" = some (some (.builtin "BaseException.__getattribute__")))
    (gg_Ref : PySem.W.findIn K (.ref C_Ref) "__getattr__" = some none)
    (hd_Ref : PySem.W.hasDictIn K C_Ref = true)
    (a_refini : PySem.W.findIn K (.ref C_Ref) "__init__" = some (some (.ref ad_refini)))
    (i_refini : PySem.W.isFn K (.ref ad_refini) = true)
    (l_refini : K.lookup ad_refini = some ⟨oc_refini, od_refini, .func (PySem.W.fnOf "__init__" "Refused.__init__" (defArgs s_Refused___init__) (defBody s_Refused___init__) (defScope s_Refused___init__) .none kV_refini dc_refini pm_refini an_refini cd_refini ct_refini), sl_refini⟩)
    (c_refini : PySem.W.codeIn K cd_refini "Refused.__init__" = true)
    (k_refini : PySem.W.keepIn K (.ref ad_refini) = true)
    (m_MOST_POINTS : PySem.W.nsIn K mainGlobals "MOST_POINTS" = some (some (.int 10 tM)))
    (z_isinstance : PySem.W.nsIn K mainGlobals "isinstance" = some none)
    (z_int : PySem.W.nsIn K mainGlobals "int" = some none)
    (z_bool : PySem.W.nsIn K mainGlobals "bool" = some none)
    (z_tuple : PySem.W.nsIn K mainGlobals "tuple" = some none)
    (z_len : PySem.W.nsIn K mainGlobals "len" = some none)
    (z_list : PySem.W.nsIn K mainGlobals "list" = some none)
    (z_all : PySem.W.nsIn K mainGlobals "all" = some none)
    (z_any : PySem.W.nsIn K mainGlobals "any" = some none)
    (z_range : PySem.W.nsIn K mainGlobals "range" = some none)
    (z_abs : PySem.W.nsIn K mainGlobals "abs" = some none)
    (z_min : PySem.W.nsIn K mainGlobals "min" = some none)
    (z_sorted : PySem.W.nsIn K mainGlobals "sorted" = some none)
    : ∃ fd : FuncData, (∀ (s : Shared) (v : Value), BindsTo s fd ⟨[v], []⟩ [("script", v)]) ∧ ∀ base : Heap, K.In base → base.Ns mainGlobals mg → FnOk l.prog w K mg base CX0 8 fa fd ["script"] (spLaw K) := by
  have e := hfa.symm.trans (PySem.W.mg_of X G a_law)
  cases e
  have y_isinstance := PySem.W.mg_none_of X G z_isinstance
  have y_int := PySem.W.mg_none_of X G z_int
  have y_bool := PySem.W.mg_none_of X G z_bool
  have y_tuple := PySem.W.mg_none_of X G z_tuple
  have y_len := PySem.W.mg_none_of X G z_len
  have y_list := PySem.W.mg_none_of X G z_list
  have y_all := PySem.W.mg_none_of X G z_all
  have y_any := PySem.W.mg_none_of X G z_any
  have y_range := PySem.W.mg_none_of X G z_range
  have y_abs := PySem.W.mg_none_of X G z_abs
  have y_min := PySem.W.mg_none_of X G z_min
  have y_sorted := PySem.W.mg_none_of X G z_sorted
  have F_init := fun_mk (st := s_Order___init__) l_init c_init k_init
  have b_init := F_init.binds (ps := ["self", "n", "pairs"]) fun _ _ _ _ _ _ us hl => match us, hl with | [_, _, _], _ => rfl
  have F_pairs := fun_mk (st := s_Order_pairs) l_pairs c_pairs k_pairs
  have b_pairs := F_pairs.binds (ps := ["self"]) fun _ _ _ _ _ _ us hl => match us, hl with | [_], _ => rfl
  have F_size := fun_mk (st := s_Order_size) l_size c_size k_size
  have b_size := F_size.binds (ps := ["self"]) fun _ _ _ _ _ _ us hl => match us, hl with | [_], _ => rfl
  have F_less := fun_mk (st := s_Order_less) l_less c_less k_less
  have b_less := F_less.binds (ps := ["self", "x", "y"]) fun _ _ _ _ _ _ us hl => match us, hl with | [_, _, _], _ => rfl
  have F_related := fun_mk (st := s_Order_related) l_related c_related k_related
  have b_related := F_related.binds (ps := ["self", "x", "y"]) fun _ _ _ _ _ _ us hl => match us, hl with | [_, _, _], _ => rfl
  have F_is_chain := fun_mk (st := s_Order_is_chain) l_is_chain c_is_chain k_is_chain
  have b_is_chain := F_is_chain.binds (ps := ["self", "bits"]) fun _ _ _ _ _ _ us hl => match us, hl with | [_, _], _ => rfl
  have F_is_antichain := fun_mk (st := s_Order_is_antichain) l_is_antichain c_is_antichain k_is_antichain
  have b_is_antichain := F_is_antichain.binds (ps := ["self", "bits"]) fun _ _ _ _ _ _ us hl => match us, hl with | [_, _], _ => rfl
  have F_is_integer := fun_mk (st := s_is_integer) l_is_integer c_is_integer k_is_integer
  have b_is_integer := F_is_integer.binds (ps := ["value"]) fun _ _ _ _ _ _ us hl => match us, hl with | [_], _ => rfl
  have F_is_point := fun_mk (st := s_is_point) l_is_point c_is_point k_is_point
  have b_is_point := F_is_point.binds (ps := ["value", "n"]) fun _ _ _ _ _ _ us hl => match us, hl with | [_, _], _ => rfl
  have F_has := fun_mk (st := s_has) l_has c_has k_has
  have b_has := F_has.binds (ps := ["bits", "x"]) fun _ _ _ _ _ _ us hl => match us, hl with | [_, _], _ => rfl
  have F_set_of := fun_mk (st := s_set_of) l_set_of c_set_of k_set_of
  have b_set_of := F_set_of.binds (ps := ["points"]) fun _ _ _ _ _ _ us hl => match us, hl with | [_], _ => rfl
  have F_lowest := fun_mk (st := s_lowest) l_lowest c_lowest k_lowest
  have b_lowest := F_lowest.binds (ps := ["bits"]) fun _ _ _ _ _ _ us hl => match us, hl with | [_], _ => rfl
  have F_members := fun_mk (st := s_members) l_members c_members k_members
  have b_members := F_members.binds (ps := ["bits"]) fun _ _ _ _ _ _ us hl => match us, hl with | [_], _ => rfl
  have F_is_pair := fun_mk (st := s_is_pair) l_is_pair c_is_pair k_is_pair
  have b_is_pair := F_is_pair.binds (ps := ["value", "n"]) fun _ _ _ _ _ _ us hl => match us, hl with | [_, _], _ => rfl
  have F_closed := fun_mk (st := s_closed) l_closed c_closed k_closed
  have b_closed := F_closed.binds (ps := ["n", "pairs"]) fun _ _ _ _ _ _ us hl => match us, hl with | [_, _], _ => rfl
  have F_is_ascending := fun_mk (st := s_is_ascending) l_is_ascending c_is_ascending k_is_ascending
  have b_is_ascending := F_is_ascending.binds (ps := ["value", "n"]) fun _ _ _ _ _ _ us hl => match us, hl with | [_, _], _ => rfl
  have F_check_size := fun_mk (st := s_check_size) l_check_size c_check_size k_check_size
  have b_check_size := F_check_size.binds (ps := ["n"]) fun _ _ _ _ _ _ us hl => match us, hl with | [_], _ => rfl
  have F_check_pairs := fun_mk (st := s_check_pairs) l_check_pairs c_check_pairs k_check_pairs
  have b_check_pairs := F_check_pairs.binds (ps := ["n", "pairs"]) fun _ _ _ _ _ _ us hl => match us, hl with | [_, _], _ => rfl
  have F_related_pairs := fun_mk (st := s_related_pairs) l_related_pairs c_related_pairs k_related_pairs
  have b_related_pairs := F_related_pairs.binds (ps := ["above"]) fun _ _ _ _ _ _ us hl => match us, hl with | [_], _ => rfl
  have F_d_is_chain := fun_mk (st := s_is_chain) l_d_is_chain c_d_is_chain k_d_is_chain
  have b_d_is_chain := F_d_is_chain.binds (ps := ["order", "points"]) fun _ _ _ _ _ _ us hl => match us, hl with | [_, _], _ => rfl
  have F_d_is_antichain := fun_mk (st := s_is_antichain) l_d_is_antichain c_d_is_antichain k_d_is_antichain
  have b_d_is_antichain := F_d_is_antichain.binds (ps := ["order", "points"]) fun _ _ _ _ _ _ us hl => match us, hl with | [_, _], _ => rfl
  have F_has_each_once := fun_mk (st := s_has_each_once) l_has_each_once c_has_each_once k_has_each_once
  have b_has_each_once := F_has_each_once.binds (ps := ["parting", "n"]) fun _ _ _ _ _ _ us hl => match us, hl with | [_, _], _ => rfl
  have F_is_chain_parting := fun_mk (st := s_is_chain_parting) l_is_chain_parting c_is_chain_parting k_is_chain_parting
  have b_is_chain_parting := F_is_chain_parting.binds (ps := ["order", "parting"]) fun _ _ _ _ _ _ us hl => match us, hl with | [_, _], _ => rfl
  have F_is_antichain_parting := fun_mk (st := s_is_antichain_parting) l_is_antichain_parting c_is_antichain_parting k_is_antichain_parting
  have b_is_antichain_parting := F_is_antichain_parting.binds (ps := ["order", "parting"]) fun _ _ _ _ _ _ us hl => match us, hl with | [_, _], _ => rfl
  have F_law_numbers := fun_mk (st := s_law_numbers) l_law_numbers c_law_numbers k_law_numbers
  have b_law_numbers := F_law_numbers.binds (ps := ["script"]) fun _ _ _ _ _ _ us hl => match us, hl with | [_], _ => rfl
  have F_law_next := fun_mk (st := s_law_next) l_law_next c_law_next k_law_next
  have b_law_next := F_law_next.binds (ps := ["numbers", "many"]) fun _ _ _ _ _ _ us hl => match us, hl with | [_, _], _ => rfl
  have F_law_order := fun_mk (st := s_law_order) l_law_order c_law_order k_law_order
  have b_law_order := F_law_order.binds (ps := ["numbers", "most"]) fun _ _ _ _ _ _ us hl => match us, hl with | [_, _], _ => rfl
  have F_law_table := fun_mk (st := s_law_table) l_law_table c_law_table k_law_table
  have b_law_table := F_law_table.binds (ps := ["order"]) fun _ _ _ _ _ _ us hl => match us, hl with | [_], _ => rfl
  have F_law_fits := fun_mk (st := s_law_fits) l_law_fits c_law_fits k_law_fits
  have b_law_fits := F_law_fits.binds (ps := ["table", "points", "related"]) fun _ _ _ _ _ _ us hl => match us, hl with | [_, _, _], _ => rfl
  have F_law := fun_mk (st := s_law) l_law c_law k_law
  have b_law := F_law.binds (ps := ["script"]) fun _ _ _ _ _ _ us hl => match us, hl with | [_], _ => rfl
  have F_refini := fun_mk (st := s_Refused___init__) l_refini c_refini k_refini
  have b_refini := F_refini.binds (ps := ["self", "reason"]) fun _ _ _ _ _ _ us hl => match us, hl with | [_, _], _ => rfl
  have T : OrdC K C_Order := ⟨⟨pg_Order, hd_Order, po_Order, sa_Order⟩, n_Order_n, n_Order_above⟩
  refine ⟨PySem.W.fnOf "law" "law" (defArgs s_law) (defBody s_law) (defScope s_law) .none kV_law dc_law pm_law an_law cd_law ct_law, fun s v => .of_eq rfl, fun base _ _ => ?_⟩
  have q_is_integer : Cal l.prog w K mg base CX0 1 "is_integer" ["value"] (Pu K f_isint) := ⟨ad_is_integer, _, ok_isint F_is_integer y_isinstance y_int y_bool, PySem.W.mg_of X G a_is_integer, k_is_integer, b_is_integer⟩
  have q_is_point : Cal l.prog w K mg base CX0 2 "is_point" ["value", "n"] (Pu K f_ispt) := ⟨ad_is_point, _, ok_ispt F_is_point q_is_integer, PySem.W.mg_of X G a_is_point, k_is_point, b_is_point⟩
  have q_has : Cal l.prog w K mg base CX0 1 "has" ["bits", "x"] (Pu K f_has) := ⟨ad_has, _, ok_has F_has, PySem.W.mg_of X G a_has, k_has, b_has⟩
  have q_set_of : Cal l.prog w K mg base CX0 1 "set_of" ["points"] (Pu K f_setof) := ⟨ad_set_of, _, ok_setof F_set_of, PySem.W.mg_of X G a_set_of, k_set_of, b_set_of⟩
  have q_lowest : Cal l.prog w K mg base CX0 1 "lowest" ["bits"] (Pu K f_lowest) := ⟨ad_lowest, _, ok_lowest F_lowest, PySem.W.mg_of X G a_lowest, k_lowest, b_lowest⟩
  have q_members : Cal l.prog w K mg base CX0 2 "members" ["bits"] (Pu K f_members) := ⟨ad_members, _, ok_members F_members q_lowest y_tuple, PySem.W.mg_of X G a_members, k_members, b_members⟩
  have q_is_pair : Cal l.prog w K mg base CX0 3 "is_pair" ["value", "n"] (Pu K f_ispair) := ⟨ad_is_pair, _, ok_ispair F_is_pair q_is_point y_isinstance y_tuple y_len, PySem.W.mg_of X G a_is_pair, k_is_pair, b_is_pair⟩
  have q_closed : Cal l.prog w K mg base CX0 2 "closed" ["n", "pairs"] (Pu K f_closed) := ⟨ad_closed, _, ok_closed F_closed q_has y_range y_tuple, PySem.W.mg_of X G a_closed, k_closed, b_closed⟩
  have q_is_ascending : Cal l.prog w K mg base CX0 3 "is_ascending" ["value", "n"] (Pu K f_asc) := ⟨ad_is_ascending, _, ok_asc F_is_ascending q_is_point q_set_of q_members y_isinstance y_tuple y_all, PySem.W.mg_of X G a_is_ascending, k_is_ascending, b_is_ascending⟩
  have TM : MalC K mg "Malformed" C_Mal := ⟨ex_Mal, PySem.W.mg_of X G a_Mal, kp_Mal, sb_Mal, ty_Mal, se_Mal, by rw [cl_Mal]; rfl⟩
  have OX : OexC K C_Ref := ⟨⟨_, _, _, _, _, _, _, _, _, _, _, _, _, _, _, lx_Ref, rv_Ref⟩, sa_Ref, sb_Ref, ty_Ref, kp_Ref⟩
  have TR : RefC l.prog w K mg base C_Ref := ⟨OX, PySem.W.mg_of X G a_Ref, no_Ref, ad_refini, _, a_refini, beq_iff_eq.mp i_refini, ok_refini F_refini OX no_Ref, b_refini⟩
  have q_check_size : Cal l.prog w K mg base (L2.CX l.prog w) 3 "check_size" ["n"] (PuR K C_Mal C_Ref f_chksz g_chksz) := ⟨ad_check_size, _, ok_chkszR TM TR F_check_size q_is_integer (PySem.W.mg_of X G m_MOST_POINTS), PySem.W.mg_of X G a_check_size, k_check_size, b_check_size⟩
  have q_check_pairs : Cal l.prog w K mg base (L2.CX l.prog w) 4 "check_pairs" ["n", "pairs"] (PuR K C_Mal C_Ref f_chkpr g_chkpr) := ⟨ad_check_pairs, _, ok_chkprR TM F_check_pairs q_is_pair y_isinstance y_tuple y_list y_all, PySem.W.mg_of X G a_check_pairs, k_check_pairs, b_check_pairs⟩
  have q_init : CalI l.prog w K mg base (L2.CX l.prog w) 5 "Order" C_Order ["self", "n", "pairs"] (PuIR K C_Mal C_Ref C_Order f_order g_order) := ⟨ad_init, _, ⟨mk_Order, a_init, i_init, kc_Order⟩, ok_initR T TR F_init q_check_size q_check_pairs q_closed q_has y_any y_range, b_init, PySem.W.mg_of X G a_Order⟩
  have q_related_pairs : Cal l.prog w K mg base CX0 3 "related_pairs" ["above"] (Pu K f_related_pairs) := ⟨ad_related_pairs, _, ok_related_pairs F_related_pairs q_members y_range y_tuple y_len, PySem.W.mg_of X G a_related_pairs, k_related_pairs, b_related_pairs⟩
  have q_pairs : CalM l.prog w K mg base CX0 4 C_Order "pairs" ["self"] (Pu K (f_pairs C_Order)) := ⟨ad_pairs, _, ok_pairs T F_pairs q_related_pairs, ⟨a_pairs, i_pairs, k_pairs⟩, b_pairs⟩
  have q_size : CalM l.prog w K mg base CX0 1 C_Order "size" ["self"] (Pu K (f_size C_Order)) := ⟨ad_size, _, ok_size T F_size, ⟨a_size, i_size, k_size⟩, b_size⟩
  have q_less : CalM l.prog w K mg base CX0 2 C_Order "less" ["self", "x", "y"] (Pu K (f_less C_Order)) := ⟨ad_less, _, ok_less T F_less q_has, ⟨a_less, i_less, k_less⟩, b_less⟩
  have q_related : CalM l.prog w K mg base CX0 3 C_Order "related" ["self", "x", "y"] (Pu K (f_related C_Order)) := ⟨ad_related, _, ok_related T F_related q_less, ⟨a_related, i_related, k_related⟩, b_related⟩
  have q_is_chain : CalM l.prog w K mg base CX0 4 C_Order "is_chain" ["self", "bits"] (Pu K (f_isch C_Order)) := ⟨ad_is_chain, _, ok_isch T F_is_chain q_members q_related y_all, ⟨a_is_chain, i_is_chain, k_is_chain⟩, b_is_chain⟩
  have q_is_antichain : CalM l.prog w K mg base CX0 3 C_Order "is_antichain" ["self", "bits"] (Pu K (f_isanti C_Order)) := ⟨ad_is_antichain, _, ok_isanti T F_is_antichain q_members y_all, ⟨a_is_antichain, i_is_antichain, k_is_antichain⟩, b_is_antichain⟩
  have q_d_is_chain : Cal l.prog w K mg base CX0 5 "is_chain" ["order", "points"] (Pu K (f_cch C_Order)) := ⟨ad_d_is_chain, _, ok_cch T F_d_is_chain q_is_ascending q_set_of q_is_chain, PySem.W.mg_of X G a_d_is_chain, k_d_is_chain, b_d_is_chain⟩
  have q_d_is_antichain : Cal l.prog w K mg base CX0 4 "is_antichain" ["order", "points"] (Pu K (f_can C_Order)) := ⟨ad_d_is_antichain, _, ok_can T F_d_is_antichain q_is_ascending q_set_of q_is_antichain, PySem.W.mg_of X G a_d_is_antichain, k_d_is_antichain, b_d_is_antichain⟩
  have q_has_each_once : Cal l.prog w K mg base CX0 1 "has_each_once" ["parting", "n"] (Pu K f_once) := ⟨ad_has_each_once, _, ok_once F_has_each_once y_all y_len y_sorted y_list y_range, PySem.W.mg_of X G a_has_each_once, k_has_each_once, b_has_each_once⟩
  have q_is_chain_parting : Cal l.prog w K mg base CX0 6 "is_chain_parting" ["order", "parting"] (Pu K (f_cpt C_Order)) := ⟨ad_is_chain_parting, _, ok_cpt T F_is_chain_parting q_d_is_chain q_has_each_once y_isinstance y_tuple y_all, PySem.W.mg_of X G a_is_chain_parting, k_is_chain_parting, b_is_chain_parting⟩
  have q_is_antichain_parting : Cal l.prog w K mg base CX0 5 "is_antichain_parting" ["order", "parting"] (Pu K (f_apt C_Order)) := ⟨ad_is_antichain_parting, _, ok_apt T F_is_antichain_parting q_d_is_antichain q_has_each_once y_isinstance y_tuple y_all, PySem.W.mg_of X G a_is_antichain_parting, k_is_antichain_parting, b_is_antichain_parting⟩
  have q_law_numbers : Cal l.prog w K mg base CX0 1 "_law_numbers" ["script"] (spNums K) := ⟨ad_law_numbers, _, ok_lnums F_law_numbers y_range y_len y_min y_abs, PySem.W.mg_of X G a_law_numbers, k_law_numbers, b_law_numbers⟩
  have q_law_next : Cal l.prog w K mg base CX0 1 "_law_next" ["numbers", "many"] (PuM K p_lnext q_lnext) := ⟨ad_law_next, _, ok_lnext F_law_next y_len, PySem.W.mg_of X G a_law_next, k_law_next, b_law_next⟩
  have q_law_order : Cal l.prog w K mg base CX0 7 "_law_order" ["numbers", "most"] (PuM K p_lord (q_lord C_Order)) := ⟨ad_law_order, _, ok_lord T F_law_order q_law_next q_init y_range y_len, PySem.W.mg_of X G a_law_order, k_law_order, b_law_order⟩
  have q_law_table : Cal l.prog w K mg base CX0 5 "_law_table" ["order"] (Pu K (f_ltable C_Order)) := ⟨ad_law_table, _, ok_ltable T F_law_table q_size q_pairs y_range, PySem.W.mg_of X G a_law_table, k_law_table, b_law_table⟩
  have q_law_fits : Cal l.prog w K mg base CX0 1 "_law_fits" ["table", "points", "related"] (Pu K f_lfits) := ⟨ad_law_fits, _, ok_lfits F_law_fits, PySem.W.mg_of X G a_law_fits, k_law_fits, b_law_fits⟩
  exact ok_law T F_law q_law_numbers q_law_order q_size q_law_table q_is_chain_parting q_is_antichain_parting q_d_is_chain q_d_is_antichain q_law_next q_law_fits y_range y_len y_tuple y_list
end OF

open PySem PySem.W PyProof.Rows in
set_option maxRecDepth 100000 in
set_option maxHeartbeats 0 in
theorem PySem.Challenge.cw_orderforms_k14_partings_recognised_holds : PySem.Challenge.rw_orderforms_k14_partings_recognised.Holds := by
  w_on; o_law; k_head; (case hw => w_witness2)
  k_fill
  refine L2.walk_of (l := PySem.Challenge.rw_orderforms_k14_partings_recognised) (n := 63) (k := 8) (x := "script") (CX := fun _ => L2.CX0) (sp := fun w => OF.spLaw _) rfl (by decide) rfl ⟨rfl, by decide, by decide⟩ (fun w h Y => PySem.W.kIn_of Y) ?F (fun _ _ a ns hl _ hS => ⟨a, ns, rfl, hS, fun _ => rfl⟩) (fun _ _ _ _ _ h => h)
  case F =>
    intro w mg fa h KX G hmg
    refine' OF.all_mk KX G hmg ?a_Order ?pg_Order ?hd_Order ?po_Order ?sa_Order ?mk_Order ?kc_Order ?n_Order_n ?n_Order_above ?a_init ?i_init ?l_init ?c_init ?k_init ?a_pairs ?i_pairs ?l_pairs ?c_pairs ?k_pairs ?a_size ?i_size ?l_size ?c_size ?k_size ?a_less ?i_less ?l_less ?c_less ?k_less ?a_related ?i_related ?l_related ?c_related ?k_related ?a_is_chain ?i_is_chain ?l_is_chain ?c_is_chain ?k_is_chain ?a_is_antichain ?i_is_antichain ?l_is_antichain ?c_is_antichain ?k_is_antichain ?a_is_integer ?l_is_integer ?c_is_integer ?k_is_integer ?a_is_point ?l_is_point ?c_is_point ?k_is_point ?a_has ?l_has ?c_has ?k_has ?a_set_of ?l_set_of ?c_set_of ?k_set_of ?a_lowest ?l_lowest ?c_lowest ?k_lowest ?a_members ?l_members ?c_members ?k_members ?a_is_pair ?l_is_pair ?c_is_pair ?k_is_pair ?a_closed ?l_closed ?c_closed ?k_closed ?a_is_ascending ?l_is_ascending ?c_is_ascending ?k_is_ascending ?a_check_size ?l_check_size ?c_check_size ?k_check_size ?a_check_pairs ?l_check_pairs ?c_check_pairs ?k_check_pairs ?a_related_pairs ?l_related_pairs ?c_related_pairs ?k_related_pairs ?a_d_is_chain ?l_d_is_chain ?c_d_is_chain ?k_d_is_chain ?a_d_is_antichain ?l_d_is_antichain ?c_d_is_antichain ?k_d_is_antichain ?a_has_each_once ?l_has_each_once ?c_has_each_once ?k_has_each_once ?a_is_chain_parting ?l_is_chain_parting ?c_is_chain_parting ?k_is_chain_parting ?a_is_antichain_parting ?l_is_antichain_parting ?c_is_antichain_parting ?k_is_antichain_parting ?a_law_numbers ?l_law_numbers ?c_law_numbers ?k_law_numbers ?a_law_next ?l_law_next ?c_law_next ?k_law_next ?a_law_order ?l_law_order ?c_law_order ?k_law_order ?a_law_table ?l_law_table ?c_law_table ?k_law_table ?a_law_fits ?l_law_fits ?c_law_fits ?k_law_fits ?a_law ?l_law ?c_law ?k_law ?a_Mal ?ex_Mal ?kp_Mal ?sb_Mal ?ty_Mal ?se_Mal ?cl_Mal ?a_Ref ?lx_Ref ?rv_Ref ?sa_Ref ?kp_Ref ?sb_Ref ?ty_Ref ?se_Ref ?sm_Ref ?cl_Ref ?no_Ref ?ga_Ref ?gg_Ref ?hd_Ref ?a_refini ?i_refini ?l_refini ?c_refini ?k_refini ?m_MOST_POINTS ?z_isinstance ?z_int ?z_bool ?z_tuple ?z_len ?z_list ?z_all ?z_any ?z_range ?z_abs ?z_min ?z_sorted
    (case a_Order => k_is)
    (case pg_Order => k_is)
    (case hd_Order => k_is)
    (case po_Order => k_is)
    (case sa_Order => k_is)
    (case mk_Order => k_is)
    (case kc_Order => k_is)
    (case n_Order_n => k_is)
    (case n_Order_above => k_is)
    (case a_init => k_is)
    (case i_init => k_is)
    (case l_init => k_is)
    (case c_init => k_is)
    (case k_init => k_is)
    (case a_pairs => k_is)
    (case i_pairs => k_is)
    (case l_pairs => k_is)
    (case c_pairs => k_is)
    (case k_pairs => k_is)
    (case a_size => k_is)
    (case i_size => k_is)
    (case l_size => k_is)
    (case c_size => k_is)
    (case k_size => k_is)
    (case a_less => k_is)
    (case i_less => k_is)
    (case l_less => k_is)
    (case c_less => k_is)
    (case k_less => k_is)
    (case a_related => k_is)
    (case i_related => k_is)
    (case l_related => k_is)
    (case c_related => k_is)
    (case k_related => k_is)
    (case a_is_chain => k_is)
    (case i_is_chain => k_is)
    (case l_is_chain => k_is)
    (case c_is_chain => k_is)
    (case k_is_chain => k_is)
    (case a_is_antichain => k_is)
    (case i_is_antichain => k_is)
    (case l_is_antichain => k_is)
    (case c_is_antichain => k_is)
    (case k_is_antichain => k_is)
    (case a_is_integer => k_is)
    (case l_is_integer => k_is)
    (case c_is_integer => k_is)
    (case k_is_integer => k_is)
    (case a_is_point => k_is)
    (case l_is_point => k_is)
    (case c_is_point => k_is)
    (case k_is_point => k_is)
    (case a_has => k_is)
    (case l_has => k_is)
    (case c_has => k_is)
    (case k_has => k_is)
    (case a_set_of => k_is)
    (case l_set_of => k_is)
    (case c_set_of => k_is)
    (case k_set_of => k_is)
    (case a_lowest => k_is)
    (case l_lowest => k_is)
    (case c_lowest => k_is)
    (case k_lowest => k_is)
    (case a_members => k_is)
    (case l_members => k_is)
    (case c_members => k_is)
    (case k_members => k_is)
    (case a_is_pair => k_is)
    (case l_is_pair => k_is)
    (case c_is_pair => k_is)
    (case k_is_pair => k_is)
    (case a_closed => k_is)
    (case l_closed => k_is)
    (case c_closed => k_is)
    (case k_closed => k_is)
    (case a_is_ascending => k_is)
    (case l_is_ascending => k_is)
    (case c_is_ascending => k_is)
    (case k_is_ascending => k_is)
    (case a_check_size => k_is)
    (case l_check_size => k_is)
    (case c_check_size => k_is)
    (case k_check_size => k_is)
    (case a_check_pairs => k_is)
    (case l_check_pairs => k_is)
    (case c_check_pairs => k_is)
    (case k_check_pairs => k_is)
    (case a_related_pairs => k_is)
    (case l_related_pairs => k_is)
    (case c_related_pairs => k_is)
    (case k_related_pairs => k_is)
    (case a_d_is_chain => k_is)
    (case l_d_is_chain => k_is)
    (case c_d_is_chain => k_is)
    (case k_d_is_chain => k_is)
    (case a_d_is_antichain => k_is)
    (case l_d_is_antichain => k_is)
    (case c_d_is_antichain => k_is)
    (case k_d_is_antichain => k_is)
    (case a_has_each_once => k_is)
    (case l_has_each_once => k_is)
    (case c_has_each_once => k_is)
    (case k_has_each_once => k_is)
    (case a_is_chain_parting => k_is)
    (case l_is_chain_parting => k_is)
    (case c_is_chain_parting => k_is)
    (case k_is_chain_parting => k_is)
    (case a_is_antichain_parting => k_is)
    (case l_is_antichain_parting => k_is)
    (case c_is_antichain_parting => k_is)
    (case k_is_antichain_parting => k_is)
    (case a_law_numbers => k_is)
    (case l_law_numbers => k_is)
    (case c_law_numbers => k_is)
    (case k_law_numbers => k_is)
    (case a_law_next => k_is)
    (case l_law_next => k_is)
    (case c_law_next => k_is)
    (case k_law_next => k_is)
    (case a_law_order => k_is)
    (case l_law_order => k_is)
    (case c_law_order => k_is)
    (case k_law_order => k_is)
    (case a_law_table => k_is)
    (case l_law_table => k_is)
    (case c_law_table => k_is)
    (case k_law_table => k_is)
    (case a_law_fits => k_is)
    (case l_law_fits => k_is)
    (case c_law_fits => k_is)
    (case k_law_fits => k_is)
    (case a_law => k_is)
    (case l_law => k_is)
    (case c_law => k_is)
    (case k_law => k_is)
    (case a_Mal => k_is)
    (case ex_Mal => k_exc)
    (case kp_Mal => k_is)
    (case sb_Mal => k_is)
    (case ty_Mal => k_is)
    (case se_Mal => k_is)
    (case cl_Mal => k_is)
    (case a_Ref => k_is)
    (case lx_Ref => k_is)
    (case rv_Ref => rfl)
    (case sa_Ref => k_is)
    (case kp_Ref => k_is)
    (case sb_Ref => k_is)
    (case ty_Ref => k_is)
    (case se_Ref => k_is)
    (case sm_Ref => k_is)
    (case cl_Ref => k_is)
    (case no_Ref => k_is)
    (case ga_Ref => k_is)
    (case gg_Ref => k_is)
    (case hd_Ref => k_is)
    (case a_refini => k_is)
    (case i_refini => k_is)
    (case l_refini => k_is)
    (case c_refini => k_is)
    (case k_refini => k_is)
    (case m_MOST_POINTS => k_is)
    (case z_isinstance => k_is)
    (case z_int => k_is)
    (case z_bool => k_is)
    (case z_tuple => k_is)
    (case z_len => k_is)
    (case z_list => k_is)
    (case z_all => k_is)
    (case z_any => k_is)
    (case z_range => k_is)
    (case z_abs => k_is)
    (case z_min => k_is)
    (case z_sorted => k_is)
